/-
  Texts put together: INum, INum2.
-/
import Derived.Test.YtbdhlfklcdegdaaGreatDoorWAC
namespace Go.Proofs.YtbdhlfklcdegdaaGreatDoor
namespace Ie
def man (x:Int):Int:=if x<4503599627370496 then x else 4503599627370496+x%4503599627370496
def ex (x:Int):Nat:=(x/4503599627370496 - 1).toNat
def vl (x:Int):Int:=2*man x*2^ex x
def md (x:Int):Int:=(2*man x+1)*2^ex x
theorem md_eq (x:Int):md x=vl x+2^ex x:=by rw [md,vl,Int.add_mul,Int.one_mul]
theorem vl_lt_md (x:Int):vl x<md x:=by have:=md_eq x;have:=Nm.two_pos (ex x);omega
theorem vl_succ (x:Int) (h:0≤x):vl (x+1)=vl x+2*2^ex x:=by
 have hp:=Nm.two_pos (ex x)
 by_cases h1:x+1<4503599627370496
 ·have e:ex (x+1)=ex x:=by simp only [ex];omega
  rw [vl,e,vl,man,man,if_pos h1,if_pos (by omega),Int.mul_add,Int.add_mul]
  omega
 ·by_cases h2:x<4503599627370496
  ·have hx:x=4503599627370495:=by omega
   subst hx
   decide
  ·by_cases h3:x%4503599627370496=4503599627370495
   ·have e:ex (x+1)=ex x+1:=by simp only [ex];omega
    have m:(x+1)%4503599627370496=0:=by omega
    rw [vl,e,vl,man,man,if_neg h1,if_neg h2,m,h3,Nm.two_succ]
    omega
   ·have e:ex (x+1)=ex x:=by simp only [ex];omega
    have m:(x+1)%4503599627370496=x%4503599627370496+1:=by omega
    rw [vl,e,vl,man,man,if_neg h1,if_neg h2,m,Int.mul_add,Int.mul_add,Int.mul_add,Int.add_mul,Int.add_mul,Int.add_mul]
    omega
theorem md_lt_vl (x:Int) (h:0≤x):md x<vl (x+1):=by
 have:=md_eq x;have:=vl_succ x h;have:=Nm.two_pos (ex x);omega
theorem vl_mono (x:Int) (h:0≤x):∀k:Nat,vl x≤vl (x+k)
 | 0=>by simp
 | k+1=>by
  have:=vl_mono x h k
  have h1:=vl_succ (x+k) (by omega)
  have:=Nm.two_pos (ex (x+k))
  have e:x+((k+1:Nat):Int)=x+(k:Int)+1:=by omega
  rw [e]
  omega
theorem vl_le {x y:Int} (h:0≤x) (hxy:x≤y):vl x≤vl y:=by
 have:=vl_mono x h (y - x).toNat
 rwa [show x+((y - x).toNat:Int)=y by omega] at this
theorem md_lt {x y:Int} (h:0≤x) (hxy:x<y):md x<md y:=by
 have:=md_lt_vl x h
 have:=vl_le (x:=x+1) (y:=y) (by omega) (by omega)
 have:=vl_lt_md y
 omega
theorem man_nn (x:Int) (h:0≤x):0≤man x∧man x<9007199254740992:=by
 simp only [man];split <;> omega
theorem vl_zero:vl 0=0:=by decide
def Near (P Q:Int) (more:Bool) (x:Int):Prop:=
 (0≤x∧x≤9218868437227405312)∧(0<x→md (x - 1)*Q<P∨(md (x - 1)*Q=P∧(x%2=0∨more=true)))∧
  (x<9218868437227405312→P<md x*Q∨(P=md x*Q∧x%2=0∧more=false))
theorem Near.mono {P Q P' Q':Int} {m m':Bool} {x y:Int} (hQ:0<Q) (hQ':0<Q') (h:Near P Q m x) (h':Near P' Q' m' y) (hv:P*Q'<P'*Q∨(P*Q'=P'*Q∧(m=true→m'=true))):x≤y:=by
 rcases (show y<x∨x≤y by omega) with hl | hl
 ·exfalso
  have h1:=h.2.1 (by have:=h'.1.1;omega)
  have h2:=h'.2.2 (by have:=h.1.2;omega)
  have a1:md (x - 1)*Q≤P:=by rcases h1 with h | h <;> omega
  have a2:P'≤md y*Q':=by rcases h2 with h | h <;> omega
  have b1:md (x - 1)*Q*Q'≤P*Q':=Int.mul_le_mul_of_nonneg_right a1 (by omega)
  have b2:P'*Q≤md y*Q'*Q:=Int.mul_le_mul_of_nonneg_right a2 (by omega)
  have c1:md (x - 1)*Q*Q'=md (x - 1)*(Q*Q'):=Int.mul_assoc _ _ _
  have c2:md y*Q'*Q=md y*(Q*Q'):=by rw [Int.mul_assoc,Int.mul_comm Q' Q]
  have hq:=Int.mul_pos hQ hQ'
  by_cases hxy:x - 1=y
  ·rw [hxy] at a1 b1 c1 h1
   have e1:P*Q'=P'*Q:=by rcases hv with h | h <;> omega
   have e2:md y*(Q*Q')=P*Q':=by omega
   have e3:md y*Q=P:=by
    rcases h1 with h | h
    ·have:=Int.mul_lt_mul_of_pos_right h hQ'
     omega
    ·exact h.1
   have e4:P'=md y*Q':=by
    rcases h2 with h | h
    ·have:=Int.mul_lt_mul_of_pos_right h hQ
     omega
    ·exact h.1
   rcases h1 with h | ⟨_,h⟩
   ·omega
   ·rcases h2 with h2 | ⟨_,h2,h3⟩
    ·omega
    ·rcases h with h | h
     ·omega
     ·rcases hv with hv | ⟨_,hv⟩
      ·omega
      ·rw [hv h] at h3;cases h3
  ·have:=md_lt h'.1.1 (show y<x - 1 by omega)
   have:=Int.mul_lt_mul_of_pos_right this hq
   rcases hv with h | h <;> omega
 ·exact hl
theorem Near.one {P Q P' Q':Int} {m:Bool} {x y:Int} (hQ:0<Q) (hQ':0<Q') (h:Near P Q m x) (h':Near P' Q' m y) (hv:P*Q'=P'*Q):x=y:=by
 have h1:=h.mono hQ hQ' h' (.inr ⟨hv,id⟩)
 have h2:=h'.mono hQ' hQ h (.inr ⟨hv.symm,id⟩)
 omega
def Rnd (n d e:Int) (more:Bool) (x:Int):Prop:=∀a b:Nat,(a:Int) - b=e+1075→Near (n*2^a) (d*2^b) more x
theorem Rnd.at {n d e:Int} {more:Bool} {x:Int} (h:Rnd n d e more x):∃a b:Nat,(a:Int) - b=e+1075∧Near (n*2^a) (d*2^b) more x:=by
 refine ⟨(e+1075).toNat,(-(e+1075)).toNat,by omega,h _ _ (by omega)⟩
theorem Rnd.bd {n d e:Int} {more:Bool} {x:Int} (h:Rnd n d e more x):0≤x∧x≤9218868437227405312:=by
 obtain ⟨a,b,_,h⟩:=h.at
 exact h.1
theorem Rnd.of {n d e:Int} {more:Bool} {x:Int} {a b:Nat} (h:(a:Int) - b=e+1075) (hn:Near (n*2^a) (d*2^b) more x):Rnd n d e more x:=by
 intro a' b' h'
 have e1:(2:Int)^a*2^b'=2^a'*2^b:=by rw [←Nm.two_add,←Nm.two_add];congr 1;omega
 have hb:=Nm.two_pos b
 have hb':=Nm.two_pos b'
 have key:∀y:Int,(y*(d*2^b')<n*2^a'↔y*(d*2^b)<n*2^a)∧(y*(d*2^b')=n*2^a'↔y*(d*2^b)=n*2^a)∧(n*2^a'<y*(d*2^b')↔n*2^a<y*(d*2^b)):=by
  intro y
  have f1:y*(d*2^b')*2^b=y*d*(2^b'*2^b):=by simp only [Int.mul_assoc]
  have f2:y*(d*2^b)*2^b'=y*d*(2^b'*2^b):=by rw [Int.mul_comm (2^b') (2^b)];simp only [Int.mul_assoc]
  have f3:n*2^a'*2^b=n*(2^a'*2^b):=Int.mul_assoc _ _ _
  have f4:n*2^a*2^b'=n*(2^a'*2^b):=by rw [←e1,Int.mul_assoc]
  refine ⟨⟨fun g=>?_,fun g=>?_⟩,⟨fun g=>?_,fun g=>?_⟩,⟨fun g=>?_,fun g=>?_⟩⟩
  ·have:=Int.mul_lt_mul_of_pos_right g hb
   exact Int.lt_of_mul_lt_mul_right (a:=2^b') (by omega) (by omega)
  ·have:=Int.mul_lt_mul_of_pos_right g hb'
   exact Int.lt_of_mul_lt_mul_right (a:=2^b) (by omega) (by omega)
  ·rw [g] at f1
   exact Int.eq_of_mul_eq_mul_right (a:=2^b') (by omega) (by omega)
  ·rw [g] at f2
   exact Int.eq_of_mul_eq_mul_right (a:=2^b) (by omega) (by omega)
  ·have:=Int.mul_lt_mul_of_pos_right g hb
   exact Int.lt_of_mul_lt_mul_right (a:=2^b') (by omega) (by omega)
  ·have:=Int.mul_lt_mul_of_pos_right g hb'
   exact Int.lt_of_mul_lt_mul_right (a:=2^b) (by omega) (by omega)
 refine ⟨hn.1,fun hx=>?_,fun hx=>?_⟩
 ·rcases hn.2.1 hx with g | ⟨g,g'⟩
  ·exact .inl ((key _).1.2 g)
  ·exact .inr ⟨(key _).2.1.2 g,g'⟩
 ·rcases hn.2.2 hx with g | ⟨g,g'⟩
  ·exact .inl ((key _).2.2.2 g)
  ·exact .inr ⟨((key _).2.1.2 g.symm).symm,g'⟩
theorem Rnd.mono {n d e n' d' e':Int} {m m':Bool} {x y:Int} (hd:0<d) (hd':0<d') (h:Rnd n d e m x) (h':Rnd n' d' e' m' y) {a a':Nat} (haa:(a:Int) - a'=e - e')
  (hv:n*d'*2^a<n'*d*2^a'∨(n*d'*2^a=n'*d*2^a'∧(m=true→m'=true))):x≤y:=by
 obtain ⟨p,q,hpq,hN⟩:=h'.at
 have hN2:=h (p+a) (q+a') (by omega)
 have hp:=Nm.two_pos p
 have hq:=Nm.two_pos q
 have ha':=Nm.two_pos a'
 refine hN2.mono (Int.mul_pos hd (Nm.two_pos _)) (Int.mul_pos hd' hq) hN ?_
 have e1:n*2^(p+a)*(d'*2^q)=n*d'*2^a*(2^p*2^q):=by
  rw [Nm.two_add];ac_rfl
 have e2:n'*2^p*(d*2^(q+a'))=n'*d*2^a'*(2^p*2^q):=by
  rw [Nm.two_add];ac_rfl
 rw [e1,e2]
 rcases hv with g | ⟨g,g'⟩
 ·exact .inl (Int.mul_lt_mul_of_pos_right g (Int.mul_pos hp hq))
 ·exact .inr ⟨by rw [g],g'⟩
theorem Rnd.one {n d e n' d' e':Int} {m:Bool} {x y:Int} (hd:0<d) (hd':0<d') (h:Rnd n d e m x) (h':Rnd n' d' e' m y) {a a':Nat} (haa:(a:Int) - a'=e - e')
  (hv:n*d'*2^a=n'*d*2^a'):x=y:=by
 have h1:=h.mono hd hd' h' haa (.inr ⟨hv,id⟩)
 have h2:=h'.mono hd' hd h (a:=a') (a':=a) (by omega) (.inr ⟨hv.symm,id⟩)
 omega
theorem Rnd.num {n d e x:Int} {more:Bool} (s:Nat) (h:Rnd (n*2^s) d (e - s) more x):Rnd n d e more x:=by
 obtain ⟨a,b,hab,hN⟩:=h.at
 rw [Int.mul_assoc,←Nm.two_add] at hN
 exact Rnd.of (a:=s+a) (b:=b) (by omega) hN
end Ie
end Go.Proofs.YtbdhlfklcdegdaaGreatDoor

namespace Go.Proofs.YtbdhlfklcdegdaaGreatDoor
namespace Ie
theorem Rnd.next {n d e x u:Int} (hd:0<d) (h:Rnd n d e false x) (h':Rnd n d e true u):u=x∨u=x+1:=by
 have h1:x≤u:=h.mono hd hd h' (a:=0) (a':=0) (by omega) (.inr ⟨rfl,fun h=>by cases h⟩)
 rcases (show u≤x+1∨x+1<u by omega) with h2 | h2
 ·omega
 ·exfalso
  obtain ⟨a,b,hab,hN⟩:=h.at
  have hN':=h' a b hab
  have g1:=hN.2.2 (by have:=hN'.1.2;omega)
  have g2:=hN'.2.1 (by have:=hN.1.1;omega)
  have g3:=Int.mul_lt_mul_of_pos_right (md_lt hN.1.1 (show x<u - 1 by omega)) (Int.mul_pos hd (Nm.two_pos b))
  rcases g1 with g | g <;> rcases g2 with g' | g' <;> omega
theorem Rnd.hi {n d e x:Int} (h:Rnd n d e false x) (hx:x<9218868437227405312) {M:Int} {E s t:Nat} (hM:md x=M*2^E) (hst:(s:Int) - t=E - 1075 - e):
  n*2^t<M*d*2^s∨(n*2^t=M*d*2^s∧x%2=0):=by
 have hN:=h (t+E) s (by omega)
 have hE:=Nm.two_pos E
 have e1:n*2^(t+E)=n*2^t*2^E:=by rw [Nm.two_add,Int.mul_assoc]
 have e2:md x*(d*2^s)=M*d*2^s*2^E:=by rw [hM];ac_rfl
 rcases hN.2.2 hx with g | ⟨g,g',_⟩
 ·rw [e1,e2] at g
  exact .inl (Int.lt_of_mul_lt_mul_right g (by omega))
 ·rw [e1,e2] at g
  exact .inr ⟨Int.eq_of_mul_eq_mul_right (by omega) g,g'⟩
theorem Rnd.lo {n d e x:Int} (h:Rnd n d e false x) (hx:0<x) {M:Int} {E s t:Nat} (hM:md (x - 1)=M*2^E) (hst:(s:Int) - t=E - 1075 - e):
  M*d*2^s<n*2^t∨(M*d*2^s=n*2^t∧x%2=0):=by
 have hN:=h (t+E) s (by omega)
 have hE:=Nm.two_pos E
 have e1:n*2^(t+E)=n*2^t*2^E:=by rw [Nm.two_add,Int.mul_assoc]
 have e2:md (x - 1)*(d*2^s)=M*d*2^s*2^E:=by rw [hM];ac_rfl
 rcases hN.2.1 hx with g | ⟨g,g'⟩
 ·rw [e1,e2] at g
  exact .inl (Int.lt_of_mul_lt_mul_right g (by omega))
 ·rw [e1,e2] at g
  refine .inr ⟨Int.eq_of_mul_eq_mul_right (by omega) g,?_⟩
  rcases g' with g' | g'
  ·exact g'
  ·cases g'
end Ie
end Go.Proofs.YtbdhlfklcdegdaaGreatDoor
