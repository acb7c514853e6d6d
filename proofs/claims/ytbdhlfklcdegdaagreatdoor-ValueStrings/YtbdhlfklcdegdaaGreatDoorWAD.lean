/-
  Texts put together: VNum, VNum2, VOrd, VDl, DNum, DBackN, DTk, RnForm, DSetN, DSgN, VMade, VMade2, PoMade, DRefMN, DRefPN.
-/
import Derived.Lib.ItoaNum
import Derived.WalkKit
namespace Go.Proofs.YtbdhlfklcdegdaaGreatDoor
namespace Sc
def pk (xs:List Int) (i:Nat):Int:=xs.getD i 0
def dg (x:Int):Bool:=decide (48≤x)&&decide (x≤57)
def bl (x:Int):Bool:=decide (x=32)||(decide (9≤x)&&decide (x≤13))
def run (p:Int→Bool) (xs:List Int) (i:Nat):Nat:=((xs.drop i).takeWhile p).length
def sg (xs:List Int) (i:Nat):Nat:=if pk xs i=43∨pk xs i=45 then 1 else 0
theorem dg_iff {x:Int}:dg x=true↔48≤x∧x≤57:=by simp [dg]
theorem dg_not {x:Int}:dg x=false↔¬(48≤x∧x≤57):=by rw [←dg_iff];simp
theorem bl_iff {x:Int}:bl x=true↔x=32∨(9≤x∧x≤13):=by simp [bl]
theorem bl_not {x:Int}:bl x=false↔¬(x=32∨(9≤x∧x≤13)):=by rw [←bl_iff];simp
theorem pk_ge {xs:List Int} {i:Nat} (h:xs.length≤i):pk xs i=0:=by simp [pk,List.getD,List.getElem?_eq_none h]
theorem pk_take (xs:List Int) (m i:Nat):pk (xs.take m) i=if i<m then pk xs i else 0:=by
 unfold pk
 by_cases h:i<m
 ·simp [List.getD,h]
 ·simp [List.getD,List.getElem?_take,h]
theorem run_step {p:Int→Bool} (hp:p 0=false) (xs:List Int) (i:Nat):run p xs i=if p (pk xs i)=true then run p xs (i+1)+1 else 0:=by
 unfold run
 rcases Nat.lt_or_ge i xs.length with h | h
 ·rw [List.drop_eq_getElem_cons h,List.takeWhile_cons]
  have e:pk xs i=xs[i]:=by simp [pk,List.getD,h]
  rw [e]
  split <;> simp
 ·rw [List.drop_of_length_le h,pk_ge h,hp]
  simp
theorem run_zero {p:Int→Bool} (hp:p 0=false) {xs:List Int} {i:Nat} (h:p (pk xs i)=false):run p xs i=0:=by
 rw [run_step hp,h];simp
theorem run_succ {p:Int→Bool} (hp:p 0=false) {xs:List Int} {i:Nat} (h:p (pk xs i)=true):run p xs i=run p xs (i+1)+1:=by
 rw [run_step hp,h];simp
theorem run_pos {p:Int→Bool} (hp:p 0=false) {xs:List Int} {i:Nat} (h:0<run p xs i):p (pk xs i)=true:=by
 cases c:p (pk xs i) with
 | true=>rfl
 | false=>rw [run_zero hp c] at h;omega
theorem run_all {p:Int→Bool} {xs:List Int} {i:Nat}:∀j,j<run p xs i→p (pk xs (i+j))=true:=by
 intro j hj
 have h1:=List.takeWhile_prefix p (l:=xs.drop i)
 obtain ⟨t,ht⟩:=h1
 have h2:(xs.drop i)[j]?=((xs.drop i).takeWhile p)[j]?:=by
  conv=>lhs;rw [←ht]
  rw [List.getElem?_append_left hj]
 rw [List.getElem?_drop,List.getElem?_eq_getElem hj] at h2
 have h3:pk xs (i+j)=((xs.drop i).takeWhile p)[j]:=by simp [pk,List.getD,h2]
 rw [h3]
 have:=List.all_takeWhile (p:=p) (l:=xs.drop i)
 rw [List.all_eq_true] at this
 exact this _ (List.getElem_mem hj)
theorem run_end {p:Int→Bool} (hp:p 0=false) {xs:List Int}:∀(n i:Nat),run p xs i=n→p (pk xs (i+n))=false:=by
 intro n
 induction n with
 | zero=>
  intro i h
  rw [Nat.add_zero]
  cases c:p (pk xs i) with
  | false=>rfl
  | true=>rw [run_succ hp c] at h;omega
 | succ n ih=>
  intro i h
  have h1:=run_pos hp (show 0<run p xs i by omega)
  rw [run_succ hp h1] at h
  have:=ih (i+1) (by omega)
  rw [show i+(n+1)=i+1+n by omega]
  exact this
theorem run_is {p:Int→Bool} (hp:p 0=false) {xs:List Int}:∀(n i:Nat),(∀j,j<n→p (pk xs (i+j))=true)→p (pk xs (i+n))=false→run p xs i=n:=by
 intro n
 induction n with
 | zero=>intro i _ h;exact run_zero hp h
 | succ n ih=>
  intro i h1 h2
  have h0:=h1 0 (by omega)
  rw [Nat.add_zero] at h0
  rw [run_succ hp h0]
  rw [ih (i+1) (fun j hj=>by rw [show i+1+j=i+(j+1) by omega];exact h1 (j+1) (by omega)) (by rw [show i+1+n=i+(n+1) by omega];exact h2)]
theorem run_take {p:Int→Bool} (hp:p 0=false) (xs:List Int) (m i:Nat):run p (xs.take m) i=min (run p xs i) (m - i):=by
 apply run_is hp
 ·intro j hj
  rw [pk_take,if_pos (by omega)]
  exact run_all j (by omega)
 ·rw [pk_take]
  by_cases c:i+min (run p xs i) (m - i)<m
  ·rw [if_pos c,show min (run p xs i) (m - i)=run p xs i by omega]
   exact run_end hp _ _ rfl
  ·rw [if_neg c];exact hp
theorem dg0:dg 0=false:=rfl
theorem bl0:bl 0=false:=rfl
structure Lt where
 neg:Bool
 ah:List Int
 bh:List Int
 sc:Int
 en:Nat
def cap (l:List Int):Int:=l.foldl (fun s x=>min (10*s+(x - 48)) 1000000000000000) 0
theorem cap_nil:cap []=0:=rfl
theorem cap_snoc (l:List Int) (x:Int):cap (l++[x])=min (10*cap l+(x - 48)) 1000000000000000:=by simp [cap]
theorem take_snoc {xs:List Int} {v c:Nat} (h:v+c<xs.length):(xs.drop v).take (c+1)=(xs.drop v).take c++[pk xs (v+c)]:=by
 rw [List.take_add_one,List.getElem?_drop,List.getElem?_eq_getElem h]
 simp [pk,List.getD,h]
def p1 (xs:List Int) (k:Nat):Nat:=k+sg xs k
def p2 (xs:List Int) (k:Nat):Nat:=p1 xs k+run dg xs (p1 xs k)
def bn (xs:List Int) (k:Nat):Nat:=if pk xs (p2 xs k)=46 then run dg xs (p2 xs k+1) else 0
def p3 (xs:List Int) (k:Nat):Nat:=if pk xs (p2 xs k)=46 then p2 xs k+1+run dg xs (p2 xs k+1) else p2 xs k
def p4 (xs:List Int) (t:Nat):Nat:=t+1+sg xs (t+1)
def isE (x:Int):Bool:=decide (x=101)||decide (x=69)
def hasE (xs:List Int) (t:Nat):Bool:=isE (pk xs t)&&dg (pk xs (p4 xs t))
def some? (xs:List Int) (k:Nat):Prop:=run dg xs (p1 xs k)+bn xs k≠0
instance (xs:List Int) (k:Nat):Decidable (some? xs k):=inferInstanceAs (Decidable (_≠_))
def lit (xs:List Int) (k:Nat):Lt:=
 {neg:=decide (pk xs k=45)
  ah:=(xs.drop (p1 xs k)).take (run dg xs (p1 xs k))
  bh:=(xs.drop (p2 xs k+1)).take (bn xs k)
  sc:=if hasE xs (p3 xs k)=true then (if pk xs (p3 xs k+1)=45 then - cap ((xs.drop (p4 xs (p3 xs k))).take (run dg xs (p4 xs (p3 xs k)))) else cap ((xs.drop (p4 xs (p3 xs k))).take (run dg xs (p4 xs (p3 xs k))))) else 0
  en:=if hasE xs (p3 xs k)=true then p4 xs (p3 xs k)+run dg xs (p4 xs (p3 xs k)) else p3 xs k }
def rd (xs:List Int) (k:Nat):Option Lt:=if some? xs k then some (lit xs k) else none
theorem sg_take (xs:List Int) (m i:Nat) (h:i<m):sg (xs.take m) i=sg xs i:=by simp only [sg,pk_take,if_pos h]
theorem sg_past (xs:List Int) (m i:Nat) (h:m≤i):sg (xs.take m) i=0:=by simp only [sg,pk_take,if_neg (show ¬i<m by omega)];simp
theorem en_eq (xs:List Int) (k:Nat):(lit xs k).en=if hasE xs (p3 xs k)=true then p4 xs (p3 xs k)+run dg xs (p4 xs (p3 xs k)) else p3 xs k:=rfl
theorem p2_p3 (xs:List Int) (k:Nat):p2 xs k≤p3 xs k:=by unfold p3;split <;> omega
theorem rd_none_take {xs:List Int} {k m:Nat} (h:¬some? xs k) (hk:k<m):¬some? (xs.take m) k:=by
 unfold some? at *
 have h1:run dg xs (p1 xs k)=0:=by omega
 have h2:bn xs k=0:=by omega
 have e1:p1 (xs.take m) k=p1 xs k:=by unfold p1;rw [sg_take _ _ _ hk]
 have e2:run dg (xs.take m) (p1 xs k)=0:=by rw [run_take dg0];omega
 have e3:p2 (xs.take m) k=p2 xs k:=by unfold p2;rw [e1,e2,h1]
 rw [e1,e2]
 have e4:bn (xs.take m) k=0:=by
  unfold bn at *
  rw [e3,pk_take,run_take dg0]
  by_cases c:p2 xs k<m
  ·rw [if_pos c]
   split
   ·next c2=>rw [if_pos c2] at h2;omega
   ·rfl
  ·rw [if_neg c];simp
 omega
theorem rd_none_past {xs:List Int} {k m:Nat} (hk:m≤k):¬some? (xs.take m) k:=by
 unfold some?
 have z:∀i,m≤i→pk (xs.take m) i=0:=fun i hi=>by rw [pk_take,if_neg (by omega)]
 have r:∀i,m≤i→run dg (xs.take m) i=0:=fun i hi=>by rw [run_take dg0];omega
 have e1:p1 (xs.take m) k=k:=by unfold p1;rw [sg_past _ _ _ hk];omega
 have e2:p2 (xs.take m) k=k:=by unfold p2;rw [e1,r k hk];omega
 rw [e1,r k hk]
 unfold bn
 rw [e2,z k hk]
 simp
theorem lit_last {xs:List Int} {k:Nat} (hs:some? xs k):k<(lit xs k).en∧bl (pk xs ((lit xs k).en - 1))=false:=by
 have key:∀i,k≤i→(dg (pk xs i)=true∨pk xs i=46)→i+1=(lit xs k).en→k<(lit xs k).en∧bl (pk xs ((lit xs k).en - 1))=false:=by
  intro i h1 h2 h3
  refine ⟨by omega,?_⟩
  rw [←h3,Nat.add_sub_cancel,bl_not]
  rcases h2 with h2 | h2
  ·have:=dg_iff.1 h2;omega
  ·omega
 have k1:k≤p1 xs k:=by unfold p1;omega
 by_cases c:hasE xs (p3 xs k)=true
 ·have he:(lit xs k).en=p4 xs (p3 xs k)+run dg xs (p4 xs (p3 xs k)):=by rw [en_eq,if_pos c]
  have c':=c
  unfold hasE at c'
  rw [Bool.and_eq_true] at c'
  have h1:=run_succ dg0 c'.2
  have h2:=p2_p3 xs k
  have h0:p3 xs k+1≤p4 xs (p3 xs k):=by unfold p4;omega
  refine key (p4 xs (p3 xs k)+(run dg xs (p4 xs (p3 xs k)) - 1)) ?_ (.inl (run_all _ (by omega))) (by omega)
  unfold p2 at h2;omega
 ·have he:(lit xs k).en=p3 xs k:=by rw [en_eq,if_neg c]
  by_cases c2:pk xs (p2 xs k)=46
  ·have h3:p3 xs k=p2 xs k+1+run dg xs (p2 xs k+1):=by unfold p3;rw [if_pos c2]
   by_cases c3:run dg xs (p2 xs k+1)=0
   ·refine key (p2 xs k) ?_ (.inr c2) (by omega)
    unfold p2;omega
   ·refine key (p2 xs k+1+(run dg xs (p2 xs k+1) - 1)) ?_ (.inl (run_all _ (by omega))) (by omega)
    unfold p2;omega
  ·have h3:p3 xs k=p2 xs k:=by unfold p3;rw [if_neg c2]
   have h4:run dg xs (p1 xs k)≠0:=by
    intro h
    apply hs
    rw [h];unfold bn;rw [if_neg c2]
   refine key (p1 xs k+(run dg xs (p1 xs k) - 1)) (by omega) (.inl (run_all _ (by omega))) ?_
   rw [he,h3];unfold p2;omega
structure D where
 neg:Bool
 ds:List Int
 e:Int
deriving DecidableEq
def z (x:Int):Bool:=decide (x=48)
def lz (ds:List Int):Nat:=(ds.takeWhile z).length
def tz (ds:List Int):Nat:=lz ds.reverse
def nrm (neg:Bool) (ds:List Int) (e:Int):D:=
 if lz ds=ds.length then ⟨neg,[48],0⟩ else ⟨neg,(ds.drop (lz ds)).take (ds.length - tz ds - lz ds),e+tz ds⟩
def Lt.d (l:Lt):D:=nrm l.neg (l.ah++l.bh) (l.sc - l.bh.length)
end Sc
end Go.Proofs.YtbdhlfklcdegdaaGreatDoor

namespace Go.Proofs.YtbdhlfklcdegdaaGreatDoor
namespace Sc
theorem z0:z 0=false:=rfl
def num (xs:List Int):D × Nat:=if some? xs (run bl xs 0) then ((lit xs (run bl xs 0)).d,(lit xs (run bl xs 0)).en) else (⟨false,[],0⟩,0)
def whl (xs:List Int):D × Bool:=if some? xs (run bl xs 0)∧(lit xs (run bl xs 0)).en+run bl xs (lit xs (run bl xs 0)).en=xs.length then ((lit xs (run bl xs 0)).d,true) else (⟨false,[],0⟩,false)
theorem run_bl_take (xs:List Int) (m:Nat):run bl (xs.take m) 0=min (run bl xs 0) m:=by rw [run_take bl0];simp
theorem num_zero {xs:List Int} (h:(num xs).2=0):num xs=(⟨false,[],0⟩,0)∧∀m,whl (xs.take m)=(⟨false,[],0⟩,false):=by
 have hn:¬some? xs (run bl xs 0):=by
  intro c
  unfold num at h
  rw [if_pos c] at h
  have:=(lit_last c).1
  simp only at h
  omega
 refine ⟨by unfold num;rw [if_neg hn],fun m=>?_⟩
 unfold whl
 rw [if_neg]
 rintro ⟨c,-⟩
 rw [run_bl_take] at c
 rcases Nat.lt_or_ge (run bl xs 0) m with d | d
 ·rw [show min (run bl xs 0) m=run bl xs 0 by omega] at c
  exact rd_none_take hn d c
 ·rw [show min (run bl xs 0) m=m by omega] at c
  exact rd_none_past (Nat.le_refl _) c
end Sc
end Go.Proofs.YtbdhlfklcdegdaaGreatDoor

namespace Go.Proofs.YtbdhlfklcdegdaaGreatDoor
namespace Sc
def big:Int:=1152921504606846976
def IsDec (ds:List Int) (e:Int):Prop:=ds≠[]∧-1152921504606846976≤e∧e≤1152921504606846976∧(∀x∈ds,dg x=true)∧(lz ds≠ds.length→e+tz ds≤1152921504606846976)
instance (ds:List Int) (e:Int):Decidable (IsDec ds e):=inferInstanceAs (Decidable (_∧_∧_∧_∧_))
def cmpI (x y:Int):Int:=if x<y then -1 else if y<x then 1 else 0
def pl (d:D):Int:=d.e+d.ds.length
def sgn (d:D):Int:=if d.ds=[48] then 0 else if d.neg=true then -1 else 1
def Nrm (d:D):Prop:=(d.ds=[48]∧d.e=0)∨d.ds≠[48]
end Sc
end Go.Proofs.YtbdhlfklcdegdaaGreatDoor

namespace Go.Proofs.YtbdhlfklcdegdaaGreatDoor
namespace Sc
def dl (u:Nat):List Int:=(Lib.decDigits u).map fun b=>(b.toNat:Int)
theorem dl_small {u:Nat} (h:u<10):dl u=[48+(u:Int)]:=by
 unfold dl
 rw [Lib.decDigits_one h]
 simp only [List.map_cons,List.map_nil]
 rw [UInt8.toNat_ofNat_of_lt' (by show 48+u<256;omega)]
 simp
theorem dl_big {u:Nat} (h:¬u<10):dl u=dl (u/10)++[48+((u%10:Nat):Int)]:=by
 unfold dl
 rw [Lib.decDigits,dif_neg h,List.map_append]
 simp only [List.map_cons,List.map_nil]
 rw [UInt8.toNat_ofNat_of_lt' (by show 48+u%10<256;omega)]
 simp
theorem dl_is (u:Nat):(∀x∈dl u,dg x=true)∧dl u≠[]∧cap (dl u)=min (u:Int) 1000000000000000:=by
 induction u using Nat.strongRecOn with
 | _ u ih=>
  by_cases h:u<10
  ·rw [dl_small h]
   refine ⟨fun x hx=>?_,by simp,?_⟩
   ·rw [List.mem_singleton] at hx;subst hx;rw [dg_iff];omega
   ·have:=cap_snoc [] (48+(u:Int))
    rw [List.nil_append,cap_nil] at this
    rw [this];omega
  ·obtain ⟨h1,h2,h3⟩:=ih (u/10) (by omega)
   rw [dl_big h]
   refine ⟨fun x hx=>?_,by simp,?_⟩
   ·rw [List.mem_append,List.mem_singleton] at hx
    rcases hx with hx | hx
    ·exact h1 x hx
    ·subst hx;rw [dg_iff];omega
   ·rw [cap_snoc,h3];omega
def Dig (ds:List Int):Prop:=ds≠[]∧∀x∈ds,dg x=true
end Sc
end Go.Proofs.YtbdhlfklcdegdaaGreatDoor

namespace Go.Proofs.YtbdhlfklcdegdaaGreatDoor
namespace Dr
structure Pc where
 t:List Int
 v:Int
 fl:Int
 wk:Int
 wd:Int
 pk:Int
 pr:Int
def Pc.no:Pc:=⟨[],0,0,0,0,0,0⟩
def nx (xs:List Int) (j:Nat):Int:=xs.getD j 0
def idx:List Int→Int→Int
 | [],_=>-1
 | x::l,c=>if x=c then 0 else if idx l c<0 then -1 else idx l c+1
theorem idx_ge (l:List Int) (c:Int):-1≤idx l c:=by
 induction l with
 | nil=>simp [idx]
 | cons x l ih=>rw [idx];split <;> (try split) <;> omega
theorem idx_lt (l:List Int) (c:Int):idx l c<l.length:=by
 induction l with
 | nil=>simp [idx]
 | cons x l ih=>rw [idx,List.length_cons];split <;> (try split) <;> omega
def marks:List Int:=[45,43,32,35,48]
def verbs:List Int:=[100,105,111,117,120,88,99,115,101,69,102,70,103,71]
def isF (c:Int):Bool:=decide (0≤idx marks c)
def isD (c:Int):Bool:=decide (48≤c)&&decide (c≤57)
theorem isD_iff {c:Int}:isD c=true↔48≤c∧c≤57:=by simp [isD]
def ct (p:Int→Bool):List Int→Nat
 | []=>0
 | c::l=>if p c=true then ct p l+1 else 0
theorem ct_le (p:Int→Bool) (l:List Int):ct p l≤l.length:=by
 induction l with
 | nil=>simp [ct]
 | cons c l ih=>rw [ct,List.length_cons];split <;> omega
theorem ct_zero {p:Int→Bool} {l:List Int} (h:p (l.headD 0)=false):ct p l=0:=by
 cases l with
 | nil=>rfl
 | cons c l=>rw [ct,if_neg (by simp only [List.headD_cons] at h;rw [h];simp)]
def fS (s:Nat):List Int→Nat
 | []=>s
 | c::l=>if isF c=true then fS (s ||| 2^(idx marks c).toNat) l else s
def dN (n:Int):List Int→Int
 | []=>n
 | c::l=>if isD c=true then dN (min (10*n+(c - 48)) 4097) l else n
def nk (l:List Int):Int:=if l.headD 0=42 then 2 else if ct isD l=0 then 0 else if 4096<dN 0 l then 0 else 1
def nv (l:List Int):Int:=if l.headD 0=42 then 0 else if ct isD l=0 then 0 else if 4096<dN 0 l then 0 else dN 0 l
def nu (l:List Int):Nat:=if l.headD 0=42 then 1 else if ct isD l=0 then 0 else if 4096<dN 0 l then 0 else ct isD l
def ne (l:List Int):Int:=if l.headD 0=42 then 0 else if ct isD l=0 then 0 else if 4096<dN 0 l then 6 else 0
def pk (l:List Int):Int:=if l.headD 0=46 then (if ne l.tail=0∧nk l.tail=0 then 1 else nk l.tail) else 0
def pv (l:List Int):Int:=if l.headD 0=46 then nv l.tail else 0
def pu (l:List Int):Nat:=if l.headD 0=46 then 1+nu l.tail else 0
def pe (l:List Int):Int:=if l.headD 0=46 then ne l.tail else 0
def ve (l:List Int):Int:=if l=[] then 131 else if idx verbs (l.headD 0)<0 then 130 else 0
def vv (l:List Int):Int:=if ve l=0 then l.headD 0 else 0
def vu (l:List Int):Nat:=if ve l=0 then 1 else 0
def l1 (l:List Int):List Int:=l.drop (ct isF l)
def l2 (l:List Int):List Int:=(l1 l).drop (nu (l1 l))
def l3 (l:List Int):List Int:=(l2 l).drop (pu (l2 l))
def de (l:List Int):Int:=if ne (l1 l)≠0 then ne (l1 l) else if pe (l2 l)≠0 then pe (l2 l) else ve (l3 l)
def dp (l:List Int):Pc:=if de l=0 then ⟨[],vv (l3 l),fS 0 l,nk (l1 l),nv (l1 l),pk (l2 l),pv (l2 l)⟩ else Pc.no
def du (l:List Int):Nat:=if ne (l1 l)≠0 then ct isF l else if pe (l2 l)≠0 then ct isF l+nu (l1 l)+pu (l2 l) else ct isF l+nu (l1 l)+pu (l2 l)+vu (l3 l)
def isX (c:Int):Bool:=decide (c≠37)
def qe (l:List Int):Int:=if l.headD 0≠37 then 0 else if l.tail.headD 0=37 then 0 else de l.tail
def qp (l:List Int):Pc:=if l.headD 0≠37 then ⟨l.take (ct isX l),0,0,0,0,0,0⟩ else if l.tail.headD 0=37 then ⟨[],37,0,0,0,0,0⟩ else dp l.tail
def qu (l:List Int):Nat:=if l.headD 0≠37 then ct isX l else if l.tail.headD 0=37 then 2 else 1+du l.tail
def pr:Nat→List Int→List Pc × Nat × Int
 | 0,_=>([],0,0)
 | n+1,l=>if l=[] then ([],0,0) else if qe l≠0 then ([],qu l,qe l) else if (pr n (l.drop (qu l))).2.2=0 then (qp l::(pr n (l.drop (qu l))).1,0,0) else ([],qu l+(pr n (l.drop (qu l))).2.1,(pr n (l.drop (qu l))).2.2)
def prs (l:List Int):List Pc × Nat × Int:=pr (l.length+1) l
theorem ve_len {l:List Int} (h:ve l=0):1≤l.length:=by
 cases l with
 | nil=>simp [ve] at h
 | cons c l=>simp
theorem headD_len {l:List Int} {c:Int} (hc:c≠0) (h:l.headD 0=c):1≤l.length:=by
 cases l with
 | nil=>simp at h;omega
 | cons c l=>simp
theorem nu_le (l:List Int):nu l≤l.length:=by
 unfold nu
 have:=ct_le isD l
 split
 ·rename_i h;exact headD_len (by decide) h
 ·split
  ·omega
  ·split <;> omega
theorem pu_le (l:List Int):pu l≤l.length:=by
 unfold pu
 split
 ·rename_i h
  have:=headD_len (by decide) h
  have:=nu_le l.tail
  rw [List.length_tail] at this
  omega
 ·omega
theorem vu_le (l:List Int):vu l≤l.length:=by
 unfold vu;split
 ·rename_i h;exact ve_len h
 ·omega
theorem du_le (l:List Int):du l≤l.length:=by
 have a:=ct_le isF l
 have b:=nu_le (l1 l)
 have c:=pu_le (l2 l)
 have d:=vu_le (l3 l)
 unfold du
 unfold l3 l2 l1 at *
 simp only [List.length_drop] at *
 split
 ·omega
 ·split <;> omega
theorem qu_le {l:List Int} (hl:l≠[]):qu l≤l.length:=by
 unfold qu
 have:=List.length_pos_iff.2 hl
 split
 ·exact ct_le _ _
 ·split
  ·rename_i h
   have:=headD_len (by decide) h
   rw [List.length_tail] at this
   omega
  ·have:=du_le l.tail
   rw [List.length_tail] at this
   omega
theorem qu_pos {l:List Int} (hl:l≠[]):1≤qu l:=by
 unfold qu
 split
 ·rename_i h
  cases l with
  | nil=>exact absurd rfl hl
  | cons c l=>simp only [List.headD_cons] at h;rw [ct,if_pos (by simp [isX,h])];omega
 ·split <;> omega
theorem pr_fuel (n m:Nat) (l:List Int) (hn:l.length<n) (hm:l.length<m):pr n l=pr m l:=by
 induction n generalizing m l with
 | zero=>omega
 | succ n ih=>
  cases m with
  | zero=>omega
  | succ m=>
   by_cases hl:l=[]
   ·simp [pr,hl]
   ·have p:=qu_pos hl
    have q:=qu_le hl
    have e:=ih m (l.drop (qu l)) (by rw [List.length_drop];omega) (by rw [List.length_drop];omega)
    simp only [pr,e]
theorem prs_nil:prs []=([],0,0):=by simp [prs,pr]
theorem prs_err {l:List Int} (hl:l≠[]) (h:qe l≠0):prs l=([],qu l,qe l):=by
 rw [prs,pr,if_neg hl,if_pos h]
theorem prs_cons {l:List Int} (hl:l≠[]) (h:qe l=0):prs l=if (prs (l.drop (qu l))).2.2=0 then (qp l::(prs (l.drop (qu l))).1,0,0) else ([],qu l+(prs (l.drop (qu l))).2.1,(prs (l.drop (qu l))).2.2):=by
 have p:=qu_pos hl
 have q:=qu_le hl
 have e:pr l.length (l.drop (qu l))=prs (l.drop (qu l)):=pr_fuel _ _ _ (by rw [List.length_drop];omega) (by omega)
 rw [prs,pr,if_neg hl,if_neg (by simp [h]),e]
end Dr
end Go.Proofs.YtbdhlfklcdegdaaGreatDoor

namespace Go.Proofs.YtbdhlfklcdegdaaGreatDoor
namespace Dr
def ms (f:Int):List Int:=(if f.toNat%2=1 then [45] else [])++(if f.toNat/2%2=1 then [43] else [])++(if f.toNat/4%2=1 then [32] else [])++(if f.toNat/8%2=1 then [35] else [])++(if f.toNat/16%2=1 then [48] else [])
def wn (k n:Int):List Int:=if k=1 then Sc.dl n.toNat else if k=2 then [42] else []
def wr (p:Pc):List Int:=if p.v=0 then p.t else if p.v=37 then [37,37] else 37::(ms p.fl++wn p.wk p.wd++(if p.pk≠0 then 46::wn p.pk p.pr else [])++[p.v])
def num (k n l:Int):Prop:=((k=0∨k=2)∧n=0)∨(k=1∧l≤n∧n≤4096)
def isT (p:Pc):Prop:=p.t≠[]∧p.v=0∧p.fl=0∧p.wk=0∧p.wd=0∧p.pk=0∧p.pr=0∧idx p.t 37<0
def isP (p:Pc):Prop:=p.t=[]∧p.v=37∧p.fl=0∧p.wk=0∧p.wd=0∧p.pk=0∧p.pr=0
def isR (p:Pc):Prop:=0≤idx verbs p.v∧p.t=[]∧0≤p.fl∧p.fl≤31∧num p.wk p.wd 1∧num p.pk p.pr 0
def ok (p:Pc):Prop:=isT p∨isP p∨isR p
instance (k n l:Int):Decidable (num k n l):=inferInstanceAs (Decidable (_∨_))
instance (p:Pc):Decidable (isT p):=inferInstanceAs (Decidable (_∧_))
instance (p:Pc):Decidable (isP p):=inferInstanceAs (Decidable (_∧_))
instance (p:Pc):Decidable (isR p):=inferInstanceAs (Decidable (_∧_))
instance (p:Pc):Decidable (ok p):=inferInstanceAs (Decidable (_∨_))
theorem Pc.eq {p q:Pc} (h1:p.t=q.t) (h2:p.v=q.v) (h3:p.fl=q.fl) (h4:p.wk=q.wk) (h5:p.wd=q.wd) (h6:p.pk=q.pk) (h7:p.pr=q.pr):p=q:=by
 cases p;cases q;simp_all
theorem idx_cons {x c:Int} {l:List Int} (h:0≤idx (x::l) c):c=x∨0≤idx l c:=by
 rw [idx] at h
 split at h
 ·rename_i e;exact .inl e.symm
 ·split at h
  ·omega
  ·exact .inr (by omega)
theorem verb_cases {c:Int} (h:0≤idx verbs c):c=100∨c=105∨c=111∨c=117∨c=120∨c=88∨c=99∨c=115∨c=101∨c=69∨c=102∨c=70∨c=103∨c=71:=by
 unfold verbs at h
 iterate 13 (rcases idx_cons h with h | h;· omega)
 rcases idx_cons h with h | h
 ·omega
 ·simp [idx] at h
theorem verb_ne {c:Int} (h:0≤idx verbs c):c≠0∧c≠37∧c≠42∧c≠46∧isD c=false∧isF c=false∧0≤c∧c<256:=by
 rcases verb_cases h with h | h | h | h | h | h | h | h | h | h | h | h | h | h <;> subst h <;> decide
theorem isF_cases {c:Int}:isF c=true↔c=45∨c=43∨c=32∨c=35∨c=48:=by
 constructor
 ·intro h
  simp only [isF,decide_eq_true_eq] at h
  unfold marks at h
  iterate 4 (rcases idx_cons h with h | h;· omega)
  rcases idx_cons h with h | h
  ·omega
  ·simp [idx] at h
 ·rintro (h | h | h | h | h) <;> subst h <;> decide
theorem fS_stop {s:Nat} {r:List Int} (h:isF (r.headD 0)=false):fS s r=s:=by
 cases r with
 | nil=>rfl
 | cons c l=>rw [fS,if_neg (by simp only [List.headD_cons] at h;rw [h];simp)]
theorem dl_head (u:Nat) (h1:1≤u):∃c l,Sc.dl u=c::l∧49≤c∧c≤57:=by
 induction u using Nat.strongRecOn with
 | _ u ih=>
  by_cases h:u<10
  ·exact ⟨_,_,Sc.dl_small h,by omega,by omega⟩
  ·obtain ⟨c,l,e,h2,h3⟩:=ih (u/10) (by omega) (by omega)
   exact ⟨c,l++[48+((u%10:Nat):Int)],by rw [Sc.dl_big h,e];rfl,h2,h3⟩
end Dr
end Go.Proofs.YtbdhlfklcdegdaaGreatDoor

namespace Go.Proofs.YtbdhlfklcdegdaaGreatDoor
namespace Dr
def tk (p:Pc):Int:=if p.v=0∨p.v=37 then 0 else 1+(if p.wk=2 then 1 else 0)+(if p.pk=2 then 1 else 0)
def wants:List Pc→Int
 | []=>0
 | p::l=>tk p+wants l
theorem tk_bd (p:Pc):0≤tk p∧tk p≤3:=by
 unfold tk
 split
 ·omega
 ·split <;> split <;> omega
theorem wants_app (a b:List Pc):wants (a++b)=wants a+wants b:=by
 induction a with
 | nil=>simp [wants]
 | cons p l ih=>rw [List.cons_append,wants,wants,ih];omega
theorem wants_bd (l:List Pc):0≤wants l∧wants l≤3*l.length:=by
 induction l with
 | nil=>simp [wants]
 | cons p l ih=>have:=tk_bd p;rw [wants,List.length_cons];omega
theorem wants_take {l:List Pc} {i:Nat} (h:i<l.length):wants (l.take (i+1))=wants (l.take i)+tk (l.getD i Pc.no):=by
 rw [List.take_add_one,List.getElem?_eq_getElem h,wants_app,List.getD_eq_getElem?_getD,List.getElem?_eq_getElem h]
 simp [wants]
end Dr
end Go.Proofs.YtbdhlfklcdegdaaGreatDoor

namespace Go.Proofs.YtbdhlfklcdegdaaGreatDoor
namespace Dr
theorem fS_le {s:Nat} (l:List Int) (h:s<2^5):fS s l<2^5:=by
 induction l generalizing s with
 | nil=>exact h
 | cons c l ih=>
  rw [fS]
  split
  ·refine ih (Nat.or_lt_two_pow h ?_)
   have a:=idx_lt marks c
   have b:marks.length=5:=rfl
   rename_i k
   have k':0≤idx marks c:=by simpa [isF] using k
   exact Nat.pow_lt_pow_right (by omega) (by omega)
  ·exact h
theorem dN_ge {n:Int} (l:List Int) (h0:0≤n) (h:n≤4097):n≤dN n l:=by
 induction l generalizing n with
 | nil=>exact Int.le_refl _
 | cons c l ih=>
  rw [dN]
  split
  ·rename_i k
   have k':=isD_iff.1 k
   have:=ih (n:=min (10*n+(c - 48)) 4097) (by omega) (by omega)
   omega
  ·exact Int.le_refl _
theorem dN_one {l:List Int} (h:isD (l.headD 0)=true) (h2:l.headD 0≠48):1≤dN 0 l:=by
 cases l with
 | nil=>simp [isD] at h
 | cons c l=>
  simp only [List.headD_cons] at h h2
  have k':=isD_iff.1 h
  rw [dN,if_pos h]
  have:=dN_ge (n:=min (10*0+(c - 48)) 4097) l (by omega) (by omega)
  omega
theorem ct_head {p:Int→Bool} {l:List Int} (h:ct p l≠0):p (l.headD 0)=true:=by
 cases e:p (l.headD 0) with
 | true=>rfl
 | false=>exact absurd (ct_zero e) h
theorem ct_next {p:Int→Bool} (hp:p 0=false) (l:List Int):p ((l.drop (ct p l)).headD 0)=false:=by
 induction l with
 | nil=>simpa [ct] using hp
 | cons c l ih=>
  rw [ct]
  split
  ·rw [List.drop_succ_cons];exact ih
  ·rename_i k
   simpa using k
theorem num_in {l:List Int} (h:ne l=0):num (nk l) (nv l) 0∧(l.headD 0≠48→num (nk l) (nv l) 1):=by
 unfold ne at h
 unfold nk nv
 by_cases h1:l.headD 0=42
 ·simp only [if_pos h1];exact ⟨.inl ⟨.inr rfl,rfl⟩,fun _=>.inl ⟨.inr rfl,rfl⟩⟩
 ·simp only [if_neg h1] at h ⊢
  by_cases h2:ct isD l=0
  ·simp only [if_pos h2];exact ⟨.inl ⟨.inl rfl,rfl⟩,fun _=>.inl ⟨.inl rfl,rfl⟩⟩
  ·simp only [if_neg h2] at h ⊢
   by_cases h3:4096<dN 0 l
   ·simp [if_pos h3] at h
   ·simp only [if_neg h3]
    have a:=dN_ge (n:=0) l (by omega) (by omega)
    exact ⟨.inr ⟨rfl,a,by omega⟩,fun k=>.inr ⟨rfl,dN_one (ct_head h2) k,by omega⟩⟩
theorem take_ct {p:Int→Bool} (l:List Int):∀x∈l.take (ct p l),p x=true:=by
 induction l with
 | nil=>simp [ct]
 | cons c l ih=>
  rw [ct]
  split
  ·rename_i k
   intro x hx
   rw [List.take_succ_cons] at hx
   rcases List.mem_cons.1 hx with rfl | hx
   ·exact k
   ·exact ih x hx
  ·simp
theorem idx_none {l:List Int} {c:Int} (h:∀x∈l,x≠c):idx l c<0:=by
 induction l with
 | nil=>simp [idx]
 | cons x l ih=>
  have a:=ih (fun y hy=>h y (by simp [hy]))
  rw [idx,if_neg (h x (by simp)),if_pos a];decide
theorem dp_ok {l:List Int} (h:de l=0):isR (dp l):=by
 have h0:ne (l1 l)=0∧pe (l2 l)=0∧ve (l3 l)=0:=by
  rw [de] at h
  split at h
  ·contradiction
  ·rename_i a
   split at h
   ·contradiction
   ·rename_i b
    exact ⟨by simpa using a,by simpa using b,h⟩
 obtain ⟨e1,e2,e3⟩:=h0
 rw [dp,if_pos h]
 have vb:0≤idx verbs ((l3 l).headD 0):=by
  rw [ve] at e3
  split at e3
  ·simp at e3
  ·split at e3
   ·simp at e3
   ·omega
 have fb:=fS_le (s:=0) l (by decide)
 have hd:(l1 l).headD 0≠48:=by
  have:=ct_next (p:=isF) (by decide) l
  intro q
  rw [←l1,q] at this
  exact absurd this (by decide)
 refine ⟨by show 0≤idx verbs (vv (l3 l));rw [vv,if_pos e3];exact vb,rfl,by show (0:Int)≤(fS 0 l:Int);omega,by show (fS 0 l:Int)≤31;omega,(num_in e1).2 hd,?_⟩
 show num (pk (l2 l)) (pv (l2 l)) 0
 unfold pk pv
 rw [pe] at e2
 by_cases q:(l2 l).headD 0=46
 ·rw [if_pos q] at e2
  rw [if_pos q,if_pos q]
  have n:=(num_in e2).1
  split
  ·rename_i z
   have:nv (l2 l).tail=0:=by
    rcases n with ⟨_,n⟩ | ⟨n,_⟩
    ·exact n
    ·rw [z.2] at n;exact absurd n (by decide)
   rw [this];exact .inr ⟨rfl,by omega,by omega⟩
  ·exact n
 ·rw [if_neg q,if_neg q];exact .inl ⟨.inl rfl,rfl⟩
theorem qp_ok {l:List Int} (hl:l≠[]) (h:qe l=0):ok (qp l):=by
 unfold qp
 unfold qe at h
 by_cases h1:l.headD 0≠37
 ·rw [if_pos h1]
  left
  refine ⟨?_,rfl,rfl,rfl,rfl,rfl,rfl,?_⟩
  ·intro q
   have q':=congrArg List.length q
   rw [List.length_take] at q'
   have a:l.length≠0:=by simpa using hl
   have b:ct isX l≠0:=by
    cases l with
    | nil=>exact absurd rfl hl
    | cons c l=>
     rw [ct,if_pos (by simp only [List.headD_cons] at h1;simpa [isX] using h1)];omega
   simp only [List.length_nil] at q'
   omega
  ·exact idx_none (fun x hx=>by simpa [isX] using take_ct (p:=isX) l x hx)
 ·rw [if_neg h1] at h ⊢
  by_cases h2:l.tail.headD 0=37
  ·rw [if_pos h2];right;left;exact ⟨rfl,rfl,rfl,rfl,rfl,rfl,rfl⟩
  ·rw [if_neg h2] at h ⊢
   right;right
   exact dp_ok h
theorem prs_form:∀(n:Nat) (l:List Int),l.length≤n→∀p∈(prs l).1,ok p:=by
 intro n
 induction n with
 | zero=>
  intro l hl p hp
  have:l=[]:=List.eq_nil_of_length_eq_zero (by omega)
  subst this
  rw [prs_nil] at hp;simp at hp
 | succ n ih=>
  intro l hl p hp
  by_cases h0:l=[]
  ·subst h0;rw [prs_nil] at hp;simp at hp
  ·by_cases he:qe l=0
   ·rw [prs_cons h0 he] at hp
    split at hp
    ·rcases List.mem_cons.1 hp with rfl | hp
     ·exact qp_ok h0 he
     ·have:=qu_pos h0
      exact ih (l.drop (qu l)) (by rw [List.length_drop];omega) p hp
    ·simp at hp
   ·rw [prs_err h0 he] at hp;simp at hp
theorem prs_sub:∀(n:Nat) (l:List Int),l.length≤n→∀p∈(prs l).1,∀x∈p.t,x∈l:=by
 intro n
 induction n with
 | zero=>
  intro l hl p hp
  have:l=[]:=List.eq_nil_of_length_eq_zero (by omega)
  subst this
  rw [prs_nil] at hp;simp at hp
 | succ n ih=>
  intro l hl p hp
  by_cases h0:l=[]
  ·subst h0;rw [prs_nil] at hp;simp at hp
  ·by_cases he:qe l=0
   ·rw [prs_cons h0 he] at hp
    split at hp
    ·rcases List.mem_cons.1 hp with rfl | hp
     ·intro x hx
      rw [qp] at hx
      split at hx
      ·exact List.mem_of_mem_take hx
      ·split at hx
       ·simp at hx
       ·rw [dp] at hx
        split at hx <;> simp [Pc.no] at hx
     ·have:=qu_pos h0
      intro x hx
      exact List.mem_of_mem_drop (ih (l.drop (qu l)) (by rw [List.length_drop];omega) p hp x hx)
    ·simp at hp
   ·rw [prs_err h0 he] at hp;simp at hp
theorem prs_lng:∀(n:Nat) (l:List Int),l.length≤n→(prs l).1.length≤l.length:=by
 intro n
 induction n with
 | zero=>
  intro l hl
  have:l=[]:=List.eq_nil_of_length_eq_zero (by omega)
  subst this
  rw [prs_nil];simp
 | succ n ih=>
  intro l hl
  by_cases h0:l=[]
  ·subst h0;rw [prs_nil];simp
  ·by_cases he:qe l=0
   ·rw [prs_cons h0 he]
    split
    ·have:=qu_pos h0
     have:=qu_le h0
     have:=ih (l.drop (qu l)) (by rw [List.length_drop];omega)
     rw [List.length_drop] at this
     rw [List.length_cons]
     omega
    ·simp
   ·rw [prs_err h0 he];simp
end Dr
end Go.Proofs.YtbdhlfklcdegdaaGreatDoor

namespace Go.Proofs.YtbdhlfklcdegdaaGreatDoor
open Go
def sW (p:Dr.Pc) (x:Int):Int:=if p.wk=2 then x else p.wd
def sP (p:Dr.Pc) (y:Int):Int:=if p.pk=0 then -1 else if p.pk=2 then max y (-1) else p.pr
def ste (p:Dr.Pc) (x y:Int):Int:=if Dr.isR p then (if sW p x < -4096∨4096<sW p x∨4096<sP p y then 6 else 0) else 132
def spv (p:Dr.Pc) (x y:Int):Array Value:=if ste p x y=0 then #[.int .u8 p.v,.int .i64 (if sW p x<0 then bits .or .i64 p.fl 1 else p.fl),.int .i64 (if sW p x<0 then - sW p x else sW p x),.int .i64 (sP p y)] else #[.int .u8 0,.int .i64 0,.int .i64 0,.int .i64 0]
end Go.Proofs.YtbdhlfklcdegdaaGreatDoor

namespace Go.Proofs.YtbdhlfklcdegdaaGreatDoor
open Go
namespace Dr
def pl (ps:List Pc):List Int:=ps.flatMap fun p=>if p.v=37 then [37] else p.t
theorem pl_app (a b:List Pc):pl (a++b)=pl a++pl b:=by simp [pl]
theorem pl_take {l:List Pc} {i:Nat} (h:i<l.length):pl (l.take (i+1))=pl (l.take i)++(if (l.getD i Pc.no).v=37 then [37] else (l.getD i Pc.no).t):=by
 rw [List.take_add_one,List.getElem?_eq_getElem h,pl_app,List.getD_eq_getElem?_getD,List.getElem?_eq_getElem h]
 simp [pl]
theorem pl_le {l:List Pc} {i:Nat}:(pl (l.take i)).length≤(pl l).length:=by
 have e:pl l=pl (l.take i)++pl (l.drop i):=by rw [←pl_app,List.take_append_drop]
 rw [e,List.length_append];omega
theorem pl_mem {l:List Pc} (h:∀p∈l,∀x∈p.t,0≤x∧x<256):∀x∈pl l,0≤x∧x<256:=by
 intro x hx
 obtain ⟨p,hp,hx⟩:=List.mem_flatMap.1 hx
 split at hx
 ·simp at hx;omega
 ·exact h p hp x hx
def isN (p:Pc):Prop:=p.v=0∨p.v=37
instance (p:Pc):Decidable (isN p):=by unfold isN;infer_instance
def fd:List Pc→Nat
 | []=>0
 | p::l=>if isN p then fd l+1 else 0
def cq:List Pc→Int
 | []=>0
 | p::l=>(if isN p then 0 else 1)+cq l
theorem cq_app (a b:List Pc):cq (a++b)=cq a+cq b:=by
 induction a with
 | nil=>simp [cq]
 | cons p l ih=>rw [List.cons_append,cq,cq,ih];omega
theorem cq_take {l:List Pc} {i:Nat} (h:i<l.length):cq (l.take (i+1))=cq (l.take i)+(if isN (l.getD i Pc.no) then 0 else 1):=by
 rw [List.take_add_one,List.getElem?_eq_getElem h,cq_app,List.getD_eq_getElem?_getD,List.getElem?_eq_getElem h]
 simp [cq]
theorem cq_bd (l:List Pc):0≤cq l∧cq l≤l.length:=by
 induction l with
 | nil=>simp [cq]
 | cons p l ih=>rw [cq,List.length_cons];split <;> omega
theorem tk_isN {p:Pc} (h:isN p):tk p=0:=if_pos h
theorem tk_not {p:Pc} (h:¬isN p):1≤tk p:=by
 have h':¬(p.v=0∨p.v=37):=h
 rw [tk,if_neg h'];split <;> split <;> omega
theorem cq_wants (l:List Pc):cq l≤wants l:=by
 induction l with
 | nil=>simp [cq,wants]
 | cons p l ih=>
  rw [cq,wants]
  by_cases h:isN p
  ·rw [if_pos h,tk_isN h];omega
  ·rw [if_neg h];have:=tk_not h;omega
theorem cq_zero {l:List Pc} (h:cq l=0):wants l=0∧fd l=l.length∧∀p∈l,isN p:=by
 induction l with
 | nil=>simp [wants,fd]
 | cons p l ih=>
  rw [cq] at h
  have b:=cq_bd l
  by_cases k:isN p
  ·rw [if_pos k] at h
   obtain ⟨a,b,c⟩:=ih (by omega)
   refine ⟨by rw [wants,tk_isN k,a];rfl,by rw [fd,if_pos k,b,List.length_cons],fun q hq=>?_⟩
   rcases List.mem_cons.1 hq with rfl | hq
   ·exact k
   ·exact c q hq
  ·rw [if_neg k] at h;omega
theorem cq_one {l:List Pc} (h:cq l=1):wants l=tk (l.getD (fd l) Pc.no):=by
 induction l with
 | nil=>simp [cq] at h
 | cons p l ih=>
  rw [cq] at h
  by_cases k:isN p
  ·rw [if_pos k] at h
   rw [wants,tk_isN k,fd,if_pos k,ih (by omega)]
   simp
  ·rw [if_neg k] at h
   rw [wants,fd,if_neg k,(cq_zero (l:=l) (by omega)).1]
   simp
theorem wants_one {l:List Pc}:wants l=1↔cq l=1∧tk (l.getD (fd l) Pc.no)=1:=by
 constructor
 ·intro h
  have a:=cq_wants l
  have b:=cq_bd l
  have c:cq l=1:=by
   by_cases k:cq l=0
   ·have:=(cq_zero k).1;omega
   ·omega
  exact ⟨c,by rw [←cq_one c];exact h⟩
 ·rintro ⟨h,k⟩
  rw [cq_one h,k]
theorem fd_lt {l:List Pc} (h:cq l≠0):fd l<l.length:=by
 induction l with
 | nil=>simp [cq] at h
 | cons p l ih=>
  rw [cq] at h
  rw [fd,List.length_cons]
  by_cases k:isN p
  ·rw [if_pos k] at h ⊢;have:=ih (by omega);omega
  ·rw [if_neg k];omega
theorem fd_ahead {l:List Pc} {i:Nat} (h:i<fd l):isN (l.getD i Pc.no):=by
 induction l generalizing i with
 | nil=>simp [fd] at h
 | cons p l ih=>
  rw [fd] at h
  by_cases k:isN p
  ·rw [if_pos k] at h
   cases i with
   | zero=>simpa using k
   | succ i=>simpa using ih (i:=i) (by omega)
  ·rw [if_neg k] at h;omega
theorem fd_at {l:List Pc} (h:fd l<l.length):¬isN (l.getD (fd l) Pc.no):=by
 induction l with
 | nil=>simp at h
 | cons p l ih=>
  rw [fd] at h ⊢
  by_cases k:isN p
  ·rw [if_pos k] at h ⊢
   simpa using ih (by simpa using h)
  ·rw [if_neg k];simpa using k
theorem fd_is {l:List Pc} {i:Nat} (h1:i≤fd l) (h2:¬isN (l.getD i Pc.no)):fd l=i:=by
 rcases Nat.lt_or_ge i (fd l) with h | h
 ·exact absurd (fd_ahead h) h2
 ·omega
def Lw (l:List Pc) (i:Nat) (n:Int) (k:Nat):Prop:=n=cq (l.take i)∧(n=0→i≤fd l∧k=0)∧(n=1→k=fd l)∧k≤i
theorem Lw.start (l:List Pc):Lw l 0 0 0:=⟨by simp [cq],fun _=>⟨by omega,rfl⟩,fun h=>by omega,by omega⟩
theorem Lw.skip {l:List Pc} {i k:Nat} {n:Int} (h:Lw l i n k) (hi:i<l.length) (hn:isN (l.getD i Pc.no)):Lw l (i+1) n k:=by
 obtain ⟨a,b,c,d⟩:=h
 refine ⟨by rw [cq_take hi,if_pos hn,←a];omega,fun q=>⟨?_,(b q).2⟩,c,by omega⟩
 have h1:=(b q).1
 rcases Nat.lt_or_ge i (fd l) with h | h
 ·omega
 ·have e:fd l=i:=by omega
  exact absurd hn (by have:=fd_at (l:=l) (by omega);rw [e] at this;exact this)
theorem Lw.hit {l:List Pc} {i k:Nat} {n:Int} (h:Lw l i n k) (hi:i<l.length) (hn:¬isN (l.getD i Pc.no)):Lw l (i+1) (n+1) i:=by
 obtain ⟨a,b,c,d⟩:=h
 have:=cq_bd (l.take i)
 refine ⟨by rw [cq_take hi,if_neg hn,←a],fun q=>by omega,fun q=>?_,by omega⟩
 exact (fd_is (b (by omega)).1 hn).symm
theorem Lw.done {l:List Pc} {k:Nat} {n:Int} (h:Lw l l.length n k):n=cq l∧(n=1→k=fd l):=by
 obtain ⟨a,b,c,d⟩:=h
 rw [List.take_length] at a
 exact ⟨a,c⟩
def pvs:List Int:=[101,69,102,70,103,71]
def sgP (xs:List Int):Pc:=(prs xs).1.getD (fd (prs xs).1) Pc.no
def sgO (xs:List Int):Bool:=decide ((prs xs).2.2=0∧wants (prs xs).1=1∧0≤idx pvs (sgP xs).v)
def sgA (xs:List Int):List Int:=if sgO xs=true then pl ((prs xs).1.take (fd (prs xs).1)) else []
def sgB (xs:List Int):List Int:=if sgO xs=true then pl ((prs xs).1.drop (fd (prs xs).1+1)) else []
def sgS (xs:List Int):Array Value:=if sgO xs=true then spv (sgP xs) 0 0 else #[.int .u8 0,.int .i64 0,.int .i64 0,.int .i64 0]
theorem ok_isR {p:Pc} (h:ok p):isR p↔¬isN p:=by
 constructor
 ·intro q k
  have v:=verb_ne q.1
  rcases k with k | k
  ·exact v.1 k
  ·exact v.2.1 k
 ·intro q
  rcases h with k | k | k
  ·exact absurd (.inl k.2.1) q
  ·exact absurd (.inr k.2.1) q
  ·exact k
theorem num_bd {k n l:Int} (h:num k n l) (hl:0≤l):0≤n∧n≤4096:=by
 rcases h with h | h <;> omega
theorem ste_zero {p:Pc} (h:isR p) (h1:p.wk≠2) (h2:p.pk≠2):ste p 0 0=0:=by
 have a:=num_bd h.2.2.2.2.1 (by omega)
 have b:=num_bd h.2.2.2.2.2 (by omega)
 rw [ste,if_pos h,if_neg]
 unfold sW sP
 rw [if_neg h1,if_neg h2]
 split <;> omega
theorem sg_one {xs:List Int} (h:wants (prs xs).1=1):fd (prs xs).1<(prs xs).1.length∧isR (sgP xs)∧(sgP xs).wk≠2∧(sgP xs).pk≠2∧ste (sgP xs) 0 0=0:=by
 obtain ⟨c,t⟩:=wants_one.1 h
 have l:=fd_lt (l:=(prs xs).1) (by omega)
 have n:=fd_at l
 have m:sgP xs∈(prs xs).1:=by rw [sgP,List.getD_eq_getElem?_getD,List.getElem?_eq_getElem l];exact List.getElem_mem l
 have r:isR (sgP xs):=(ok_isR (prs_form _ xs (Nat.le_refl _) _ m)).2 n
 have t':tk (sgP xs)=1:=t
 have n':¬((sgP xs).v=0∨(sgP xs).v=37):=n
 rw [tk,if_neg n'] at t'
 have a:(sgP xs).wk≠2:=fun q=>by rw [if_pos q] at t';split at t' <;> omega
 have b:(sgP xs).pk≠2:=fun q=>by rw [if_pos q] at t';split at t' <;> omega
 exact ⟨l,r,a,b,ste_zero r a b⟩
theorem sg_no {xs:List Int} (h:sgO xs=false):sgA xs=[]∧sgB xs=[]∧sgS xs=#[.int .u8 0,.int .i64 0,.int .i64 0,.int .i64 0]:=by
 have e:¬sgO xs=true:=by rw [h];exact Bool.false_ne_true
 exact ⟨if_neg e,if_neg e,if_neg e⟩
theorem sg_yes {xs:List Int} (h:sgO xs=true):sgA xs=pl ((prs xs).1.take (fd (prs xs).1))∧sgB xs=pl ((prs xs).1.drop (fd (prs xs).1+1))∧sgS xs=spv (sgP xs) 0 0:=⟨if_pos h,if_pos h,if_pos h⟩
theorem pl_prs:∀(n:Nat) (l:List Int),l.length≤n→(pl (prs l).1).length≤l.length:=by
 intro n
 induction n with
 | zero=>
  intro l h
  have:l=[]:=List.eq_nil_of_length_eq_zero (by omega)
  subst this
  rw [prs_nil];simp [pl]
 | succ n ih=>
  intro l h
  by_cases hl:l=[]
  ·subst hl;rw [prs_nil];simp [pl]
  ·by_cases he:qe l=0
   ·rw [prs_cons hl he]
    split
    ·have p:=qu_pos hl
     have q:=qu_le hl
     have k:=ih (l.drop (qu l)) (by rw [List.length_drop];omega)
     rw [List.length_drop] at k
     have e:pl (qp l::(prs (l.drop (qu l))).1)=(if (qp l).v=37 then [37] else (qp l).t)++pl (prs (l.drop (qu l))).1:=by simp [pl]
     have f:((if (qp l).v=37 then [37] else (qp l).t):List Int).length≤qu l:=by
      unfold qp qu at *
      split
      ·split at p <;> simp <;> try omega
      ·rename_i hv
       split
       ·simp
       ·split
        ·simp
        ·rename_i h1 h2
         unfold dp
         split
         ·simp
         ·simp [Pc.no]
     show (pl (qp l::(prs (l.drop (qu l))).1)).length≤_
     rw [e,List.length_append]
     omega
    ·simp [pl]
   ·rw [prs_err hl he];simp [pl]
end Dr
end Go.Proofs.YtbdhlfklcdegdaaGreatDoor

namespace Go.Proofs.YtbdhlfklcdegdaaGreatDoor
namespace Sc
end Sc
end Go.Proofs.YtbdhlfklcdegdaaGreatDoor

namespace Go.Proofs.YtbdhlfklcdegdaaGreatDoor
namespace Sc
def TailOk (tail:List Int):Prop:=dg (pk tail 0)=false∧pk tail 0≠46∧isE (pk tail 0)=false∧pk tail 0≠43∧pk tail 0≠45
theorem TailOk.blanks {P:List Int} (h:∀x∈P,bl x=true):TailOk P:=by
 cases P with
 | nil=>exact ⟨rfl,by decide,rfl,by decide,by decide⟩
 | cons x l=>
  have hx:bl x=true:=h x (by simp)
  have:x=32∨(9≤x∧x≤13):=by simpa [bl] using hx
  refine ⟨?_,?_,?_,?_,?_⟩
  ·show dg x=false;rw [dg_not];omega
  ·show x≠46;omega
  ·show isE x=false;simp [isE];omega
  ·show x≠43;omega
  ·show x≠45;omega
end Sc
end Go.Proofs.YtbdhlfklcdegdaaGreatDoor

namespace Go.Proofs.YtbdhlfklcdegdaaGreatDoor
namespace Sc
end Sc
end Go.Proofs.YtbdhlfklcdegdaaGreatDoor

namespace Go.Proofs.YtbdhlfklcdegdaaGreatDoor
namespace Dr
theorem nx_drop (xs:List Int) (a t:Nat):nx (xs.drop a) t=nx xs (a+t):=by
 simp [nx,List.getD_eq_getElem?_getD]
theorem nx_end {xs:List Int} {j:Nat} (h:xs.length≤j):nx xs j=0:=by
 simp [nx,List.getD_eq_getElem?_getD,List.getElem?_eq_none h]
theorem head_nx (xs:List Int) (a:Nat):(xs.drop a).headD 0=nx xs a:=by
 rw [nx,List.getD_eq_getElem?_getD]
 rcases Nat.lt_or_ge a xs.length with h | h
 ·rw [List.drop_eq_getElem_cons h,List.getElem?_eq_getElem h];rfl
 ·rw [List.drop_of_length_le h,List.getElem?_eq_none h];rfl
theorem ct_is {p:Int→Bool}:∀{l:List Int} {j:Nat},(∀t,t<j→p (nx l t)=true)→j≤l.length→(j=l.length∨p (nx l j)=false)→ct p l=j
 | [],j,_,h,_=>by simp at h;rw [h];rfl
 | x::l,0,_,_,h=>by
  rcases h with h | h
  ·simp at h
  ·rw [ct,if_neg (by rw [show nx (x::l) 0=x from rfl] at h;rw [h];simp)]
 | x::l,j+1,h1,h2,h3=>by
  have k:=h1 0 (by omega)
  rw [show nx (x::l) 0=x from rfl] at k
  rw [ct,if_pos k,ct_is (l:=l) (j:=j) (fun t ht=>h1 (t+1) (by omega)) (by simpa using h2) (by
   rcases h3 with h | h
   ·exact .inl (by simpa using h)
   ·exact .inr h)]
theorem ct_at {p:Int→Bool} {xs:List Int} {a j:Nat} (ha:a≤j) (h1:∀t,a≤t→t<j→p (nx xs t)=true) (h2:j≤xs.length) (h3:j=xs.length∨p (nx xs j)=false):a+ct p (xs.drop a)=j:=by
 have:ct p (xs.drop a)=j - a:=by
  refine ct_is (fun t ht=>?_) (by rw [List.length_drop];omega) ?_
  ·rw [nx_drop];exact h1 _ (by omega) (by omega)
  ·rw [nx_drop,show a+(j - a)=j by omega,List.length_drop]
   rcases h3 with h | h
   ·exact .inl (by omega)
   ·exact .inr h
 omega
def mF (xs:List Int) (i:Nat):Nat:=i+1+ct isF (xs.drop (i+1))
def wl (xs:List Int) (k:Nat):Nat:=if nx xs k=42 then k+1 else k+ct isD (xs.drop k)
def mW (xs:List Int) (i:Nat):Nat:=wl xs (mF xs i)
def mP (xs:List Int) (i:Nat):Nat:=if nx xs (mW xs i)=46 then wl xs (mW xs i+1) else mW xs i
theorem nx_lt {xs:List Int} {j:Nat} {c:Int} (h:nx xs j=c) (hc:c≠0):j<xs.length:=by
 rcases Nat.lt_or_ge j xs.length with k | k
 ·exact k
 ·rw [nx_end k] at h;exact absurd h.symm hc
theorem ct_room (p:Int→Bool) {xs:List Int} {a:Nat} (h:a≤xs.length):a+ct p (xs.drop a)≤xs.length:=by
 have:=ct_le p (xs.drop a);rw [List.length_drop] at this;omega
theorem mF_le {xs:List Int} {i:Nat} (h:i<xs.length):mF xs i≤xs.length:=ct_room _ h
theorem mF_ge (xs:List Int) (i:Nat):i+1≤mF xs i:=by unfold mF;omega
theorem wl_le {xs:List Int} {k:Nat} (h:k≤xs.length):wl xs k≤xs.length:=by
 unfold wl
 split
 ·rename_i q;exact nx_lt q (by decide)
 ·exact ct_room _ h
theorem wl_ge (xs:List Int) (k:Nat):k≤wl xs k:=by unfold wl;split <;> omega
theorem mW_le {xs:List Int} {i:Nat} (h:i<xs.length):mW xs i≤xs.length:=wl_le (mF_le h)
theorem mW_ge (xs:List Int) (i:Nat):mF xs i≤mW xs i:=wl_ge _ _
theorem mP_le {xs:List Int} {i:Nat} (h:i<xs.length):mP xs i≤xs.length:=by
 unfold mP
 split
 ·rename_i q;exact wl_le (nx_lt q (by decide))
 ·exact mW_le h
theorem mP_ge (xs:List Int) (i:Nat):mW xs i≤mP xs i:=by
 unfold mP
 split
 ·have:=wl_ge xs (mW xs i+1);omega
 ·omega
theorem dN_take (n:Int) (l:List Int):dN n (l.take (ct isD l))=dN n l:=by
 induction l generalizing n with
 | nil=>simp
 | cons c l ih=>
  rw [ct]
  by_cases h:isD c=true
  ·rw [if_pos h,List.take_succ_cons,dN,dN,if_pos h,if_pos h,ih]
  ·rw [if_neg h,List.take_zero,dN,dN,if_neg h]
theorem nx_take {l:List Int} {n t:Nat} (h:t<n):nx (l.take n) t=nx l t:=by
 simp [nx,List.getD_eq_getElem?_getD,h]
theorem ct_all (p:Int→Bool) (l:List Int):∀t,t<ct p l→p (nx l t)=true:=by
 induction l with
 | nil=>intro t h;simp [ct] at h
 | cons c l ih=>
  intro t h
  rw [ct] at h
  by_cases k:p c=true
  ·rw [if_pos k] at h
   cases t with
   | zero=>exact k
   | succ t=>exact ih t (by omega)
  ·rw [if_neg k] at h;omega
theorem or_bit:∀s:Fin 32,∀j:Fin 5,(s.val ||| 2^j.val)=if s.val/2^j.val%2=0 then s.val+2^j.val else s.val:=by decide
theorem fS_step {s:Nat} {l:List Int} (h:isF (l.headD 0)=true):fS s l=fS (s ||| 2^(idx marks (l.headD 0)).toNat) l.tail:=by
 cases l with
 | nil=>simp [isF,idx,marks] at h
 | cons c l=>rw [fS,if_pos (show isF c=true from h)];rfl
end Dr
end Go.Proofs.YtbdhlfklcdegdaaGreatDoor

namespace Go.Proofs.YtbdhlfklcdegdaaGreatDoor
namespace Dr
def wK (xs:List Int) (j:Nat):Int:=if mF xs j<mW xs j then (if nx xs (mF xs j)=42 then 2 else 1) else 0
def wV (xs:List Int) (j:Nat):Int:=if mF xs j<mW xs j∧nx xs (mF xs j)≠42 then dN 0 (xs.drop (mF xs j)) else 0
def pK (xs:List Int) (j:Nat):Int:=if mW xs j<mP xs j then (if mP xs j=mW xs j+1∨nx xs (mW xs j+1)≠42 then 1 else 2) else 0
def pV (xs:List Int) (j:Nat):Int:=if mW xs j<mP xs j∧(mP xs j=mW xs j+1∨nx xs (mW xs j+1)≠42) then dN 0 (xs.drop (mW xs j+1)) else 0
theorem dN_none {l:List Int} (h:ct isD l=0):dN 0 l=0:=by rw [←dN_take,h];rfl
theorem num_at (xs:List Int) (k:Nat):
  (nx xs k=42∧wl xs k=k+1∧ne (xs.drop k)=0∧nk (xs.drop k)=2∧nv (xs.drop k)=0∧nu (xs.drop k)=1) ∨
  (nx xs k≠42∧wl xs k=k∧dN 0 (xs.drop k)=0∧ne (xs.drop k)=0∧nk (xs.drop k)=0∧nv (xs.drop k)=0∧nu (xs.drop k)=0) ∨
  (nx xs k≠42∧k<wl xs k∧4096<dN 0 (xs.drop k)∧ne (xs.drop k)=6∧nu (xs.drop k)=0) ∨
  (nx xs k≠42∧k<wl xs k∧dN 0 (xs.drop k)≤4096∧ne (xs.drop k)=0∧nk (xs.drop k)=1∧nv (xs.drop k)=dN 0 (xs.drop k)∧k+nu (xs.drop k)=wl xs k):=by
 unfold ne nk nv nu wl
 rw [head_nx]
 by_cases h:nx xs k=42
 ·left;simp [h]
 ·right
  by_cases c:ct isD (xs.drop k)=0
  ·left;simp [h,c,dN_none c]
  ·right
   by_cases d:4096<dN 0 (xs.drop k)
   ·left;simp [h,c,d];omega
   ·right;simp [h,c,d];omega
theorem l1_at (xs:List Int) (j:Nat):l1 (xs.drop (j+1))=xs.drop (mF xs j):=by rw [l1,List.drop_drop];rfl
theorem width_at (xs:List Int) (j:Nat):(wV xs j≤4096→ne (xs.drop (mF xs j))=0∧nk (xs.drop (mF xs j))=wK xs j∧nv (xs.drop (mF xs j))=wV xs j∧mF xs j+nu (xs.drop (mF xs j))=mW xs j)∧(4096<wV xs j→ne (xs.drop (mF xs j))=6):=by
 have e:mW xs j=wl xs (mF xs j):=rfl
 unfold wV wK
 rw [e]
 generalize mF xs j=k
 rcases num_at xs k with ⟨a,b,c,d,f,g⟩ | ⟨a,b,z,c,d,f,g⟩ | ⟨a,b,c,d,f⟩ | ⟨a,b,c,d,f,g,i⟩
 ·refine ⟨fun _=>⟨c,?_,?_,by omega⟩,fun h=>?_⟩
  ·rw [if_pos (by omega),if_pos a,d]
  ·rw [if_neg (fun q=>q.2 a),f]
  ·rw [if_neg (fun q=>q.2 a)] at h;omega
 ·refine ⟨fun _=>⟨c,?_,?_,by omega⟩,fun h=>?_⟩
  ·rw [if_neg (by omega),d]
  ·rw [if_neg (fun q=>by omega),f]
  ·rw [if_neg (fun q=>by omega)] at h;omega
 ·refine ⟨fun h=>?_,fun h=>d⟩
  rw [if_pos ⟨b,a⟩] at h;omega
 ·refine ⟨fun _=>⟨d,?_,?_,i⟩,fun h=>?_⟩
  ·rw [if_pos b,if_neg a,f]
  ·rw [if_pos ⟨b,a⟩,g]
  ·rw [if_pos ⟨b,a⟩] at h;omega
theorem prec_at (xs:List Int) (j:Nat):(pV xs j≤4096→pe (xs.drop (mW xs j))=0∧pk (xs.drop (mW xs j))=pK xs j∧pv (xs.drop (mW xs j))=pV xs j∧mW xs j+pu (xs.drop (mW xs j))=mP xs j)∧(4096<pV xs j→pe (xs.drop (mW xs j))=6∧pu (xs.drop (mW xs j))=1):=by
 have e:mP xs j=if nx xs (mW xs j)=46 then wl xs (mW xs j+1) else mW xs j:=rfl
 unfold pV pK pe pk pv pu
 rw [e,head_nx,List.tail_drop]
 generalize mW xs j=k
 by_cases h:nx xs k=46
 ·simp only [h,if_true]
  rcases num_at xs (k+1) with ⟨a,b,c,d,f,g⟩ | ⟨a,b,z,c,d,f,g⟩ | ⟨a,b,c,d,f⟩ | ⟨a,b,c,d,f,g,i⟩
  ·have n1:¬(k<k+1+1∧(k+1+1=k+1∨(42:Int)≠42)):=by omega
   have n2:k<k+1+1:=by omega
   have n3:¬(k+1+1=k+1∨(42:Int)≠42):=by omega
   rw [a,b,c,d,f,g,if_neg n1,if_pos n2,if_neg n3]
   refine ⟨fun _=>⟨rfl,by simp,rfl,by omega⟩,fun q=>?_⟩
   omega
  ·have n2:k<k+1:=by omega
   have n3:k+1=k+1∨nx xs (k+1)≠42:=.inl rfl
   have n1:k<k+1∧(k+1=k+1∨nx xs (k+1)≠42):=⟨n2,n3⟩
   rw [b,c,d,f,g,z,if_pos n1,if_pos n2,if_pos n3]
   refine ⟨fun _=>⟨rfl,by simp,rfl,by omega⟩,fun q=>?_⟩
   omega
  ·have n2:k<wl xs (k+1):=by omega
   rw [d,f,if_pos (⟨n2,.inr a⟩:k<wl xs (k+1)∧(wl xs (k+1)=k+1∨nx xs (k+1)≠42))]
   exact ⟨fun q=>by omega,fun _=>⟨rfl,rfl⟩⟩
  ·have n2:k<wl xs (k+1):=by omega
   rw [d,f,g,if_pos (⟨n2,.inr a⟩:k<wl xs (k+1)∧(wl xs (k+1)=k+1∨nx xs (k+1)≠42)),if_pos n2,if_pos (.inr a:wl xs (k+1)=k+1∨nx xs (k+1)≠42)]
   refine ⟨fun _=>⟨rfl,by simp,rfl,by omega⟩,fun q=>by omega⟩
 ·simp [h]
theorem dir_wide {xs:List Int} {j:Nat} (h:4096<wV xs j):de (xs.drop (j+1))=6∧j+(1+du (xs.drop (j+1)))=mF xs j:=by
 have a:=(width_at xs j).2 h
 unfold de du
 rw [l1_at,a]
 refine ⟨by simp,?_⟩
 rw [if_pos (by decide)]
 unfold mF;omega
theorem l2_at {xs:List Int} {j:Nat} (h:wV xs j≤4096):l2 (xs.drop (j+1))=xs.drop (mW xs j):=by
 have a:=(width_at xs j).1 h
 rw [l2,l1_at,List.drop_drop,a.2.2.2]
theorem dir_prec {xs:List Int} {j:Nat} (h:wV xs j≤4096) (k:4096<pV xs j):de (xs.drop (j+1))=6∧j+(1+du (xs.drop (j+1)))=mW xs j+1:=by
 have a:=(width_at xs j).1 h
 have b:=(prec_at xs j).2 k
 have c:mF xs j=j+1+ct isF (xs.drop (j+1)):=rfl
 unfold de du
 rw [l2_at h,l1_at,a.1,b.1]
 refine ⟨by simp,?_⟩
 rw [if_neg (by simp),if_pos (by decide),b.2]
 omega
theorem l3_at {xs:List Int} {j:Nat} (h:wV xs j≤4096) (k:pV xs j≤4096):l3 (xs.drop (j+1))=xs.drop (mP xs j):=by
 have b:=(prec_at xs j).1 k
 rw [l3,l2_at h,List.drop_drop,b.2.2.2]
theorem dir_rest {xs:List Int} {j:Nat} (h:wV xs j≤4096) (k:pV xs j≤4096):de (xs.drop (j+1))=ve (xs.drop (mP xs j))∧j+(1+du (xs.drop (j+1)))=mP xs j+vu (xs.drop (mP xs j)):=by
 have a:=(width_at xs j).1 h
 have b:=(prec_at xs j).1 k
 have c:mF xs j=j+1+ct isF (xs.drop (j+1)):=rfl
 unfold de du
 rw [l3_at h k,l2_at h,l1_at,a.1,b.1]
 refine ⟨by simp,?_⟩
 rw [if_neg (by simp),if_neg (by simp)]
 omega
theorem dir_ends {xs:List Int} {j:Nat} (h:wV xs j≤4096) (k:pV xs j≤4096) (e:mP xs j=xs.length):de (xs.drop (j+1))=131∧j+(1+du (xs.drop (j+1)))=xs.length:=by
 obtain ⟨a,b⟩:=dir_rest h k
 rw [a,b,e,List.drop_length]
 exact ⟨rfl,rfl⟩
theorem drop_ne {xs:List Int} {k:Nat} (h:k<xs.length):xs.drop k≠[]:=fun q=>by have:=List.drop_eq_nil_iff.1 q;omega
theorem dir_verb {xs:List Int} {j:Nat} (h:wV xs j≤4096) (k:pV xs j≤4096) (e:mP xs j<xs.length) (v:idx verbs (nx xs (mP xs j))<0):de (xs.drop (j+1))=130∧j+(1+du (xs.drop (j+1)))=mP xs j:=by
 obtain ⟨a,b⟩:=dir_rest h k
 have c:ve (xs.drop (mP xs j))=130:=by rw [ve,if_neg (drop_ne e),head_nx,if_pos v]
 rw [a,b,vu,c]
 exact ⟨rfl,rfl⟩
theorem dir_ok {xs:List Int} {j:Nat} (h:wV xs j≤4096) (k:pV xs j≤4096) (e:mP xs j<xs.length) (v:¬idx verbs (nx xs (mP xs j))<0):de (xs.drop (j+1))=0∧dp (xs.drop (j+1))=⟨[],nx xs (mP xs j),fS 0 (xs.drop (j+1)),wK xs j,wV xs j,pK xs j,pV xs j⟩∧j+(1+du (xs.drop (j+1)))=mP xs j+1:=by
 obtain ⟨a,b⟩:=dir_rest h k
 have c:ve (xs.drop (mP xs j))=0:=by rw [ve,if_neg (drop_ne e),head_nx,if_neg v]
 have d0:de (xs.drop (j+1))=0:=by rw [a,c]
 refine ⟨d0,?_,by rw [b,vu,if_pos c]⟩
 have w:=(width_at xs j).1 h
 have p:=(prec_at xs j).1 k
 rw [dp,if_pos d0,l3_at h k,l2_at h,l1_at,vv,if_pos c,head_nx,w.2.1,w.2.2.1,p.2.1,p.2.2.1]
theorem piece_text {xs:List Int} {j:Nat} (h:nx xs j≠37):qe (xs.drop j)=0∧qp (xs.drop j)=⟨(xs.drop j).take (ct isX (xs.drop j)),0,0,0,0,0,0⟩∧qu (xs.drop j)=ct isX (xs.drop j):=by
 unfold qe qp qu
 rw [head_nx]
 simp [h]
theorem piece_pct {xs:List Int} {j:Nat} (h:nx xs j=37) (k:nx xs (j+1)=37):qe (xs.drop j)=0∧qp (xs.drop j)=⟨[],37,0,0,0,0,0⟩∧qu (xs.drop j)=2:=by
 unfold qe qp qu
 rw [head_nx,List.tail_drop,head_nx]
 simp [h,k]
theorem piece_dir {xs:List Int} {j:Nat} (h:nx xs j=37) (k:nx xs (j+1)≠37):qe (xs.drop j)=de (xs.drop (j+1))∧qp (xs.drop j)=dp (xs.drop (j+1))∧j+qu (xs.drop j)=j+(1+du (xs.drop (j+1))):=by
 unfold qe qp qu
 rw [head_nx,List.tail_drop,head_nx]
 simp [h,k]
def Fl (xs:List Int) (j k:Nat) (f:Nat):Prop:=f<32∧fS f (xs.drop k)=fS 0 (xs.drop (j+1))
theorem Fl.start (xs:List Int) (j:Nat):Fl xs j (j+1) 0:=⟨by omega,rfl⟩
theorem Fl.step {xs:List Int} {j k f:Nat} (h:Fl xs j k f) (hk:isF (nx xs k)=true):Fl xs j (k+1) (if f/2^(idx marks (nx xs k)).toNat%2=0 then f+2^(idx marks (nx xs k)).toNat else f):=by
 obtain ⟨a,b⟩:=h
 have h1:isF ((xs.drop k).headD 0)=true:=by rw [head_nx];exact hk
 have l:=idx_lt marks (nx xs k)
 have g:0≤idx marks (nx xs k):=by simpa [isF] using hk
 rw [show ((marks.length:Nat):Int)=5 from rfl] at l
 have o:=or_bit ⟨f,a⟩ ⟨(idx marks (nx xs k)).toNat,by omega⟩
 simp only at o
 rw [fS_step h1,head_nx,List.tail_drop,o] at b
 refine ⟨?_,b⟩
 rw [←o]
 have p:2^(idx marks (nx xs k)).toNat<2^5:=Nat.pow_lt_pow_right (by omega) (by omega)
 exact Nat.or_lt_two_pow (n:=5) a p
theorem Fl.done {xs:List Int} {j f:Nat} (h:Fl xs j (mF xs j) f):f=fS 0 (xs.drop (j+1)):=by
 rw [←h.2,fS_stop]
 rw [head_nx]
 have q:=ct_next (p:=isF) rfl (xs.drop (j+1))
 rw [List.drop_drop,head_nx] at q
 exact q
theorem flag_at {xs:List Int} {j k:Nat} (h1:j+1≤k) (h2:k<mF xs j):isF (nx xs k)=true:=by
 have q:=ct_all isF (xs.drop (j+1)) (k - (j+1)) (by unfold mF at h2;omega)
 rw [nx_drop,show j+1+(k - (j+1))=k by omega] at q
 exact q
theorem digits_at {xs:List Int} {k m:Nat} (h:nx xs k≠42) (e:m=wl xs k):(∀t,t<((xs.drop k).take (m - k)).length→isD (((xs.drop k).take (m - k)).getD t 0)=true)∧dN 0 ((xs.drop k).take (m - k))=dN 0 (xs.drop k):=by
 have q:m - k=ct isD (xs.drop k):=by rw [e,wl,if_neg h];omega
 rw [q]
 refine ⟨fun t ht=>?_,dN_take _ _⟩
 rw [List.length_take] at ht
 have:=ct_all isD (xs.drop k) t (by omega)
 rw [←nx_take (n:=ct isD (xs.drop k)) (by omega)] at this
 exact this
end Dr
end Go.Proofs.YtbdhlfklcdegdaaGreatDoor
