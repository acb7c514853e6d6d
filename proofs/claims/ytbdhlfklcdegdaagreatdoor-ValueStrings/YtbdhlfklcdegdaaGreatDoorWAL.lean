/-
  Texts put together: ShA, FRow3, TimesNum.
-/
import Derived.Test.YtbdhlfklcdegdaaGreatDoorWAC
import Derived.Test.YtbdhlfklcdegdaaGreatDoorXMem
import Derived.Laws.ResultCell
import Derived.Test.YtbdhlfklcdegdaaGreatDoorRefNum
import Derived.Laws.Bits64b
namespace Go.Proofs.YtbdhlfklcdegdaaGreatDoor
open Go.RowKit Go.Deep
namespace Sh
theorem wrap_mod (x:Int):IntKind.u64.wrap x=x%18446744073709551616:=by rw [IntKind.wrap_u64]
theorem or_sum (hi c:Int) (s:Nat) (h0:0≤hi) (hc0:0≤c) (hc:c<2^s) (h1:hi*2^s<18446744073709551616) (h2:c<18446744073709551616):bits .or .u64 (hi*2^s) c=hi*2^s+c:=by
 obtain ⟨a,rfl⟩:=Int.eq_ofNat_of_zero_le h0
 obtain ⟨b,rfl⟩:=Int.eq_ofNat_of_zero_le hc0
 have hP:(2:Int)^s=((2^s:Nat):Int):=by simp
 rw [hP] at hc h1 ⊢
 have hb:b<2^s:=by omega
 rw [←Int.natCast_mul] at h1 ⊢
 have h:=bits_or_u64_nat (a*2^s) b (by omega) (by omega)
 rw [h,Nat.mul_comm a,←Nat.two_pow_add_eq_or_of_lt hb a]
 omega
theorem split64 (r:Nat) (hr:r≤63):(2:Int)^r*2^(64 - r)=18446744073709551616:=by
 rw [←Nm.two_add,show r+(64 - r)=64 by omega,Nm.two_64]
theorem up (x sp:Int) (r:Nat) (hr:r≤63) (x0:0≤x) (x1:x<18446744073709551616) (s0:0≤sp) (s1:sp<2^r):
  ∃A s sp',IntKind.u64.wrap (x*2^r)=A∧bits .or .u64 A sp=s∧x/2^(64 - r)=sp'∧(0≤s∧s<18446744073709551616)∧(0≤sp'∧sp'<2^r)∧Hid (s+18446744073709551616*sp'=x*2^r+sp):=by
 have hP:=Nm.two_pos r
 have hQ:=Nm.two_pos (64 - r)
 have hPQ:=split64 r hr
 obtain ⟨P,hPe⟩:∃P:Int,2^r=P:=⟨_,rfl⟩
 obtain ⟨Q,hQe⟩:∃Q:Int,2^(64 - r)=Q:=⟨_,rfl⟩
 have d1:=Int.emod_add_mul_ediv x Q
 have d2:=Int.emod_nonneg x (show Q≠0 by omega)
 have d3:=Int.emod_lt_of_pos x (show 0<Q by omega)
 have a0:0≤x/Q:=Int.ediv_nonneg x0 (by omega)
 rw [hPe] at hP s1 hPQ
 rw [hQe] at hQ hPQ
 have a1:x/Q<P:=by
  rw [Int.ediv_lt_iff_lt_mul hQ,hPQ]
  exact x1
 have a4:x*P=x%Q*P+18446744073709551616*(x/Q):=by
  have:(x%Q+Q*(x/Q))*P=x*P:=by rw [d1]
  rw [Int.add_mul,Int.mul_right_comm,Int.mul_comm Q P,hPQ] at this
  omega
 have a5:(x%Q+1)*P≤Q*P:=Int.mul_le_mul_of_nonneg_right (by omega) (by omega)
 rw [Int.add_mul,Int.one_mul,Int.mul_comm Q P,hPQ] at a5
 have a6:0≤x%Q*P:=Int.mul_nonneg d2 (by omega)
 have hA:IntKind.u64.wrap (x*P)=x%Q*P:=by rw [wrap_mod];omega
 have hO:=or_sum (x%Q) sp r d2 s0 (by rw [hPe];exact s1) (by rw [hPe];omega) (by omega)
 rw [hPe] at hO
 rw [hPe,hQe]
 exact ⟨_,_,_,hA,hO,rfl,by omega,⟨a0,a1⟩,show _=_ by omega⟩
end Sh
end Go.Proofs.YtbdhlfklcdegdaaGreatDoor

namespace Go.Proofs.YtbdhlfklcdegdaaGreatDoor
open Go Go.RowKit Go.Deep
theorem fset1 {w:World} {b o t:Nat} {v:Value} {c c':Array Value} (h:w.heap[b]?=some (.cells c t (0,0))) (e:c.setIfInBounds o v=c'):(w.setCell ⟨b,o,none⟩ v).heap[b]?=some (.cells c' t (0,0)):=by
 subst e
 simp [World.setCell,Array.getElem?_modify,h]
def FR3 (w:World) (b:Nat) (v0 v1 v2:Value):Prop:=w.heap[b]?=some (.cells #[v0,v1,v2] 35 (0,0))
theorem FR3.new (w:World) (v0 v1 v2:Value):FR3 (w.alloc (.cells #[v0,v1,v2] 35)) w.heap.size v0 v1 v2:=heap_alloc_new w _
theorem FR3.below {B:Nat} {w w':World} {b:Nat} {v0 v1 v2:Value} (h:FR3 w b v0 v1 v2) (hB:Below B w w') (hb:b<B):FR3 w' b v0 v1 v2:=by
 rw [FR3,hB.block b hb];exact h
theorem FR3.lt {w:World} {b:Nat} {v0 v1 v2:Value} (h:FR3 w b v0 v1 v2):b<w.heap.size:=by
 rcases Nat.lt_or_ge b w.heap.size with hl | hl
 ·exact hl
 ·simp [FR3,Array.getElem?_eq_none hl] at h
theorem FR3.cells {w:World} {b:Nat} {v0 v1 v2:Value} (h:FR3 w b v0 v1 v2):
  (w.cell? ⟨b,0,none⟩=some v0∧w.cell? ⟨b,1,none⟩=some v1∧w.cell? ⟨b,2,none⟩=some v2)∧
  (w.frozen? ⟨b,0,none⟩=false∧w.frozen? ⟨b,1,none⟩=false∧w.frozen? ⟨b,2,none⟩=false):=by
 simp only [FR3] at h
 refine ⟨⟨?_,?_,?_⟩,⟨?_,?_,?_⟩⟩ <;> simp [World.cell?,World.frozen?,h]
theorem FR3.put {w:World} {b:Nat} {v0 v1 v2:Value} (h:FR3 w b v0 v1 v2) (u0 u1 u2:Value):
  FR3 (((w.setCell ⟨b,0,none⟩ u0).setCell ⟨b,1,none⟩ u1).setCell ⟨b,2,none⟩ u2) b u0 u1 u2:=by
 have h0:=fset1 (o:=0) (v:=u0) (c':=#[u0,v1,v2]) h (by simp [Array.setIfInBounds])
 have h1:=fset1 (o:=1) (v:=u1) (c':=#[u0,u1,v2]) h0 (by simp [Array.setIfInBounds])
 exact fset1 (o:=2) (v:=u2) (c':=#[u0,u1,u2]) h1 (by simp [Array.setIfInBounds])
theorem FR3.far {w:World} {b c o:Nat} {v v0 v1 v2:Value} (h:FR3 w b v0 v1 v2) (hc:c≠b):FR3 (w.setCell ⟨c,o,none⟩ v) b v0 v1 v2:=by
 simp only [FR3] at *
 simp only [World.setCell,Array.getElem?_modify]
 rw [if_neg hc];exact h
theorem fset3_below {B:Nat} {w w':World} {b:Nat} {u0 u1 u2:Value} (h:Below B w w') (hb:B≤b):Below B w (((w'.setCell ⟨b,0,none⟩ u0).setCell ⟨b,1,none⟩ u1).setCell ⟨b,2,none⟩ u2):=
 ((h.setCell (p:=⟨b,0,none⟩) hb u0).setCell (p:=⟨b,1,none⟩) hb u1).setCell (p:=⟨b,2,none⟩) hb u2
end Go.Proofs.YtbdhlfklcdegdaaGreatDoor

namespace Go.Proofs.YtbdhlfklcdegdaaGreatDoor
open Go.RowKit Go.Deep
namespace Nm
theorem v32_take_nextT (zs:List Int) (k:Nat):v32 (zs.take (k+1))=v32 (zs.take k)+p32 k*zs.getD k 0:=by
 by_cases h:k<zs.length
 ·exact v32_take_succ zs k h
 ·rw [List.take_of_length_le (by omega),List.take_of_length_le (by omega)]
  simp [List.getD,List.getElem?_eq_none (Nat.le_of_not_lt h)]
theorem v32_set:∀(zs:List Int) (i:Nat) (s:Int),i<zs.length→v32 (zs.set i s)=v32 zs+p32 i*(s - zs.getD i 0)
 | [],_,_,h=>by simp at h
 | z::zs,0,s,_=>by simp only [List.set_cons_zero,v32,p32,List.getD_cons_zero];omega
 | z::zs,i+1,s,h=>by
  have:=v32_set zs i s (by simpa using h)
  simp only [List.set_cons_succ,v32,p32,List.getD_cons_succ,this,Int.mul_add,Int.mul_assoc]
  omega
theorem Halves.set {zs:List Int} (h:Halves zs) (i:Nat) {s:Int} (h0:0≤s) (h1:s<4294967296):Halves (zs.set i s):=by
 intro z hz
 rcases List.mem_or_eq_of_mem_set hz with a | rfl
 ·exact h z a
 ·exact ⟨h0,h1⟩
theorem v32_zeros:∀n,v32 (List.replicate n 0)=0
 | 0=>rfl
 | n+1=>by simp only [List.replicate,v32,v32_zeros n];rfl
theorem Halves.zeros (n:Nat):Halves (List.replicate n 0):=by
 intro z hz
 rw [List.eq_of_mem_replicate hz]
 omega
theorem p32_add (a:Nat):∀b,p32 (a+b)=p32 a*p32 b
 | 0=>by simp [p32]
 | b+1=>by rw [←Nat.add_assoc];simp only [p32,p32_add a b];rw [Int.mul_left_comm]
theorem times_digit {ps ys:List Int} {i j:Nat} {x c c' lo V pv:Int} (hk:i+j<ps.length) (hp:pv=ps.getD (i+j) 0) (h:v32 ps+p32 (i+j)*c=V+p32 i*(x*v32 (ys.take j))) (hs:lo+4294967296*c'=x*ys.getD j 0+pv+c):
  v32 (ps.set (i+j) lo)+p32 (i+(j+1))*c'=V+p32 i*(x*v32 (ys.take (j+1))):=by
 rw [v32_set ps (i+j) lo hk,v32_take_nextT,←hp,Int.mul_add x,Int.mul_add (p32 i)]
 have e1:p32 (i+(j+1))*c'=p32 (i+j)*(4294967296*c'):=by
  rw [←Nat.add_assoc];simp only [p32];rw [Int.mul_comm 4294967296 (p32 (i+j)),Int.mul_assoc]
 have e2:p32 i*(x*(p32 j*ys.getD j 0))=p32 (i+j)*(x*ys.getD j 0):=by
  rw [p32_add,Int.mul_left_comm x,←Int.mul_assoc,←Int.mul_assoc]
 have e3:p32 (i+j)*(lo+4294967296*c')=p32 (i+j)*(x*ys.getD j 0+pv+c):=by rw [hs]
 rw [Int.mul_add,Int.mul_add,Int.mul_add] at e3
 rw [e1,e2,Int.mul_sub]
 omega
end Nm
theorem r_mask32T (x:Int) (h0:0≤x) (h1:x<18446744073709551616):bits .and .u64 x 4294967295=x%4294967296:=by
 obtain ⟨n,rfl⟩:=Int.eq_ofNat_of_zero_le h0
 have h:=bits_and_u64_nat n 4294967295 (by omega) (by omega)
 have e:n &&& 4294967295=n%4294967296:=Nat.and_two_pow_sub_one_eq_mod n 32
 rw [e] at h
 rw [show (4294967295:Int)=((4294967295:Nat):Int) from rfl,h]
 omega
def TimesInv (g K:Nat) (w:World) (T c:Int) (k top:Nat) (ps:List Int) (wr:World):Prop:=
 Own wr g ps∧ps.length=K∧Nm.Halves ps∧Nm.v32 ps+Nm.p32 k*c=T∧(∀t,top≤t→ps.getD t 0=0)∧Below g w wr
end Go.Proofs.YtbdhlfklcdegdaaGreatDoor
