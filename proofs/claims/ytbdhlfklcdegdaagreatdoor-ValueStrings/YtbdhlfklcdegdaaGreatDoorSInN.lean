/-
  Squeezed.
-/
import Derived.Test.YtbdhlfklcdegdaaGreatDoorWAY
import Derived.Test.YtbdhlfklcdegdaaGreatDoorWAS
import Derived.Test.YtbdhlfklcdegdaaGreatDoorWBF
namespace Go.Proofs.YtbdhlfklcdegdaaGreatDoor
open Go.RowKit Go.Deep
namespace Gn
theorem gv_lt {B:Int} (hB:0<B):∀(zs:List Int),Digs B zs→0≤gv B zs∧gv B zs<B^zs.length
 | [],_=>by simp [gv]
 | z::zs,h=>by
  have hz:=h z (by simp)
  have ih:=gv_lt hB zs (fun y hy=>h y (by simp [hy]))
  have e:gv B (z::zs)=z+B*gv B zs:=by first | rfl | (simp only [gv];omega)
  rw [e,List.length_cons,Int.pow_succ]
  have m1:0≤B*gv B zs:=Int.mul_nonneg (by omega) ih.1
  have m2:B*(gv B zs+1)≤B*B^zs.length:=Int.mul_le_mul_of_nonneg_left (by omega) (by omega)
  rw [Int.mul_add] at m2
  rw [Int.mul_comm (B^zs.length) B]
  omega
theorem gv_at {B:Int} (hB:0<B):∀(zs:List Int) (i:Nat),Digs B zs→i<zs.length→gv B zs/B^i%B=zs.getD i 0
 | [],i,_,hi=>by simp at hi
 | z::zs,0,h,_=>by
  have hz:=h z (by simp)
  have e:gv B (z::zs)=z+B*gv B zs:=by first | rfl | (simp only [gv];omega)
  rw [e,Int.pow_zero,Int.ediv_one,Int.add_mul_emod_self_left,Int.emod_eq_of_lt hz.1 hz.2]
  rfl
 | z::zs,i+1,h,hi=>by
  have hz:=h z (by simp)
  have e:gv B (z::zs)=z+B*gv B zs:=by first | rfl | (simp only [gv];omega)
  have ih:=gv_at hB zs i (fun y hy=>h y (by simp [hy])) (by simpa using hi)
  have p:(z+B*gv B zs)/B^(i+1)=gv B zs/B^i:=by
   rw [Int.pow_succ,Int.mul_comm (B^i) B,←Int.ediv_ediv_of_nonneg (by omega),Int.add_mul_ediv_left _ _ (by omega),Int.ediv_eq_zero_of_lt hz.1 hz.2,Int.zero_add]
  rw [e,p,ih]
  rfl
theorem mod_div {B:Int} (hB:0<B) (X:Int) (m:Nat):∀j:Nat,X%B^(j+m)/B^j=X/B^j%B^m
 | 0=>by simp
 | j+1=>by
  have e:=Dn.split_mod hB (j+m) X
  have ih:=mod_div hB (X/B) m j
  have q:X%B^(j+1+m)/B^(j+1)=X%B^(j+m+1)/B/B^j:=by
   rw [show j+1+m=j+m+1 by omega,Int.pow_succ B j,Int.mul_comm (B^j) B,←Int.ediv_ediv_of_nonneg (by omega)]
  rw [q,e.2.1,ih]
  rw [Int.pow_succ,Int.mul_comm (B^j) B,←Int.ediv_ediv_of_nonneg (by omega)]
theorem dig_at {B P:Int} {k:Nat} (hB:0<B) (hP:P=B^k) (zs:List Int) (h:Digs P zs) (i j:Nat) (hi:i<zs.length) (hj:j<k):zs.getD i 0/B^j%B=gv P zs/B^(i*k+j)%B:=by
 have p0:0<P:=by rw [hP];exact Int.pow_pos hB
 rw [←gv_at p0 zs i h hi]
 obtain ⟨r,hr⟩:∃r,k=j+(r+1):=⟨k - j - 1,by omega⟩
 have e1:gv P zs/P^i%P/B^j=gv P zs/P^i/B^j%B^(r+1):=by
  conv=>lhs;rw [show (gv P zs/P^i%P)=gv P zs/P^i%B^(j+(r+1)) by rw [hP,←hr]]
  exact mod_div hB _ _ _
 rw [e1,Int.emod_emod_of_dvd _ (by rw [Int.pow_succ];exact Int.dvd_mul_left _ _)]
 have e2:gv P zs/P^i/B^j=gv P zs/B^(i*k+j):=by
  rw [Int.ediv_ediv_of_nonneg (Int.le_of_lt (Int.pow_pos p0)),Int.pow_add,hP,←Int.pow_mul,Nat.mul_comm k i]
 rw [e2]
def bk (B V:Int) (up:Bool):Nat→List Int
 | 0=>[]
 | t+1=>bk B V up t++[dgt (V/B^t%B) up]
theorem bk_len (B V:Int) (up:Bool):∀t,(bk B V up t).length=t
 | 0=>rfl
 | t+1=>by rw [bk,List.length_append,bk_len B V up t];rfl
theorem bk_at (B V:Int) (up:Bool):∀t s,s<t→(bk B V up t).getD s 0=dgt (V/B^s%B) up
 | 0,s,h=>by omega
 | t+1,s,h=>by
  rw [bk,List.getD_eq_getElem?_getD]
  rcases Nat.lt_or_ge s t with q | q
  ·rw [List.getElem?_append_left (by rw [bk_len];exact q),←List.getD_eq_getElem?_getD,bk_at B V up t s q]
  ·have:s=t:=by omega
   subst this
   rw [List.getElem?_append_right (by rw [bk_len];omega),bk_len,Nat.sub_self]
   rfl
theorem dg_next {B:Int} (hB:0<B) (n:Nat) (V:Int):Dn.dg B (n+1) V=V/B^n%B::Dn.dg B n V:=by
 rw [Dn.dg_head hB,Dn.dg_mod hB]
theorem bk_rev {B:Int} (hB:0<B) (V:Int) (up:Bool):∀t,(bk B V up t).reverse=(Dn.dg B t V).map (fun d=>dgt d up)
 | 0=>rfl
 | t+1=>by rw [bk,List.reverse_append,bk_rev hB V up t,dg_next hB];rfl
theorem dgt_letter:∀k:Fin 36,∀up:Bool,dgt (k.val:Int) up=(lettersOf up).getD k.val 0∧(dgt (k.val:Int) up=48↔k.val=0)∧(0≤dgt (k.val:Int) up∧dgt (k.val:Int) up<256):=by decide
theorem dgt_is {d:Int} (h0:0≤d) (h1:d<36) (up:Bool):dgt d up=(lettersOf up).getD d.toNat 0∧(dgt d up=48↔d=0)∧(0≤dgt d up∧dgt d up<256):=by
 have:=dgt_letter ⟨d.toNat,by omega⟩ up
 simp only at this
 rw [show ((d.toNat:Nat):Int)=d by omega] at this
 exact ⟨this.1,⟨fun q=>by have:=this.2.1.1 q;omega,fun q=>this.2.1.2 (by omega)⟩,this.2.2⟩
theorem dig_bd {B:Int} (hB:0<B) (V:Int) (s:Nat):0≤V/B^s%B∧V/B^s%B<B:=⟨Int.emod_nonneg _ (by omega),Int.emod_lt_of_pos _ hB⟩
theorem map_lets {B:Int} (hB:0<B) (h36:B≤36) (up:Bool) (m:Nat) (V:Int):(Dn.dg B m V).map (fun d=>dgt d up)=lets (lettersOf up) (Dn.dg B m V):=by
 unfold lets
 apply List.map_congr_left
 intro d hd
 have:=Dn.dg_mem hB m V d hd
 exact (dgt_is this.1 (by omega) up).1
theorem low_of {B:Int} (hB:0<B) {V:Int} (h0:0≤V) (m:Nat):∀T,m≤T→V<B^T→(∀s,m≤s→s<T→V/B^s%B=0)→V<B^m:=by
 intro T
 induction T with
 | zero=>intro h1 h2 _;rw [show m=0 by omega];exact h2
 | succ T ih=>
  intro h1 h2 h3
  rcases Nat.lt_or_ge T m with q | q
  ·rw [show m=T+1 by omega];exact h2
  ·refine ih q ?_ (fun s a b=>h3 s a (by omega))
   have z:=h3 T q (by omega)
   have p:0<B^T:=Int.pow_pos hB
   have l:V/B^T<B:=by
    apply Int.ediv_lt_of_lt_mul p
    rw [Int.pow_succ,Int.mul_comm] at h2
    exact h2
   have n:0≤V/B^T:=Int.ediv_nonneg h0 (Int.le_of_lt p)
   rw [Int.emod_eq_of_lt n l] at z
   by_cases c:V<B^T
   ·exact c
   ·have:1≤V/B^T:=(Int.le_ediv_iff_mul_le p).2 (by omega)
    omega
theorem strip_is {B:Int} (hB:0<B) {V:Int} (h0:0<V) {m T:Nat} (hm:m≤T) (hT:V<B^T) (hz:∀s,m≤s→s<T→V/B^s%B=0) (ht:m≤1∨V/B^(m - 1)%B≠0):Dn.strip (Dn.dg B T V)=Dn.dg B m V:=by
 have lm:=low_of hB (by omega) m T hm hT hz
 rw [Dn.strip_dg hB (by omega) hT lm]
 cases m with
 | zero=>rw [Int.pow_zero] at lm;omega
 | succ m=>
  have nz:V/B^m%B≠0:=by
   rcases ht with q | q
   ·have:m=0:=by omega
    subst this
    rw [Int.pow_zero,Int.ediv_one]
    rw [show B^(0+1)=B by rw [Nat.zero_add,Int.pow_one]] at lm
    rw [Int.emod_eq_of_lt (by omega) lm];omega
   ·simpa using q
  rw [dg_next hB]
  unfold Dn.strip
  rw [List.dropWhile_cons_of_neg (by simpa using nz)]
end Gn
end Go.Proofs.YtbdhlfklcdegdaaGreatDoor
