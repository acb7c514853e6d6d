/-
  Texts put together: Walk6, NSquares.
-/
import Derived.Test.YtbdhlfklcdegdaaGreatDoorWAJ
import Derived.Test.YtbdhlfklcdegdaaGreatDoorWAN
import Derived.Test.YtbdhlfklcdegdaaGreatDoorQRows
import Derived.Test.YtbdhlfklcdegdaaGreatDoorWAC
import Derived.Test.YtbdhlfklcdegdaaGreatDoorWAQ
import Derived.Test.YtbdhlfklcdegdaaGreatDoorWAH
import Derived.OwnWalk
import Derived.Deep.LoopGhost
namespace Go.Proofs.YtbdhlfklcdegdaaGreatDoor
open Go.RowKit Go.Deep
theorem ret_div {p:Option Addr} {a b:Nat} {r:Int} (h:a=b):Ending.returned (.tuple #[.slice p a a,.int .u64 r,.int .i64 0])=.returned (.tuple #[.slice p b b,.int .u64 r,.int .i64 0]):=by rw [h]
def DivInv (g n:Nat) (w:World) (xs:List Int) (d:Int) (k:Nat) (r:Int) (os:List Int) (wr:World):Prop:=
 Own wr g os∧os.length=n∧Nm.Limbs os∧Nm.val os*d+Nm.pw k*r+Nm.val (xs.take k)=Nm.val xs∧(∀i,i<k→os.getD i 0=0)∧(0≤r∧r<d)∧Below g w wr
theorem DivInv.step {g n:Nat} {w:World} {xs:List Int} {d:Int} {t:Nat} {r:Int} {os:List Int} {wr w':World} (h:DivInv g n w xs d (t+1) r os wr) (hx:t<xs.length) (ht:t<n) (hb:Below wr.heap.size wr w') {q r' x:Int}
  (hxe:x=xs.getD t 0) (hq:q*d+r'=r*18446744073709551616+x) (hq0:0≤q∧q<18446744073709551616) (hr:0≤r'∧r'<d):
  DivInv g n w xs d t r' (os.set t q) (w'.setCell ⟨g,t,none⟩ (.int .u64 q)):=by
 obtain ⟨h1,h2,h3,h4,h5,h6,h7⟩:=h
 have hlt:=h1.lt
 refine ⟨(h1.below hb hlt).set t q,by simpa using h2,h3.set t hq0.1 hq0.2,?_,?_,hr,?_⟩
 ·rw [Nm.val_set _ _ _ (by omega),h5 t (by omega),Int.sub_zero,Int.add_mul,Int.mul_assoc]
  rw [Nm.val_take_succ xs t hx,←hxe,Nm.pw_succ] at h4
  have e:Nm.pw t*(q*d+r')=Nm.pw t*(r*18446744073709551616+x):=by rw [hq]
  rw [Int.mul_add,Int.mul_add] at e
  have e2:18446744073709551616*Nm.pw t*r=Nm.pw t*(r*18446744073709551616):=by rw [Int.mul_assoc,Int.mul_left_comm,Int.mul_comm 18446744073709551616 r]
  omega
 ·intro i hi
  rw [Nm.getD_set _ _ _ _ (by omega),if_neg (by omega)]
  exact h5 i (by omega)
 ·exact h7.trans ((hb.mono (Nat.le_of_lt hlt)).setCell (p:=⟨g,t,none⟩) (Nat.le_refl _) _)
set_option maxRecDepth 100000 in
set_option maxHeartbeats 1000000 in
theorem divSmall_ok (p:Option Addr) (n cap:Nat) (zs:List Int) (d:Int) (w:World) (ha:Arg w p n cap zs) (tz:Nm.tsize zs≤4096) (hd0:0<d) (hd1:d<18446744073709551616):
  Calls Tryz.prog 322 #[.slice p n cap,.int .u64 d] w fun e w'=>
   ∃r os rest,e=.returned (.tuple #[.slice r (List.length os) (List.length os),.int .u64 rest,.int .i64 0])∧Ans w.heap.size w' r os (Nm.val os)∧(0≤rest∧rest<d)∧Hid (Nm.val os*d+rest=Nm.val zs)∧Below w.heap.size w w':=by
 obtain ⟨a1,a2,a3,a4,a5⟩:=ha
 obtain ⟨N,HN⟩:∃N,Hid (Nm.tsize zs=N):=⟨_,rfl⟩
 have T1:=limited_ok p n cap zs w a1 a2 (by omega) a4 tz
 rw [HN.out] at T1
 have hN:N≤4096:=by rw [←HN.out];exact tz
 have L1:=hid ((Nm.trim_length zs).trans HN.out)
 have hmk:=make64 N (by omega) w
 have ho:Own (w.alloc (.cells (madeCells #[.int .u64 0] N) 24)) w.heap.size (List.replicate N 0):=by
  rw [made_zero];exact Own.alloc w _
 have hb0:Below w.heap.size w (w.alloc (.cells (madeCells #[.int .u64 0] N) 24)):=(Below.refl _ _).alloc (Nat.le_refl _) _
 obtain ⟨W0,hW0⟩:∃W0,w.alloc (.cells (madeCells #[.int .u64 0] N) 24)=W0:=⟨_,rfl⟩
 have HB0:Hid (Below w.heap.size w W0):=by rw [←hW0];exact hb0
 have I0:DivInv w.heap.size N w (Nm.trim zs) d N 0 (List.replicate N 0) W0:=by
  rw [←hW0]
  exact ⟨ho,by simp,Nm.Limbs.replicate _,by rw [Nm.val_replicate,Int.zero_mul,Int.mul_zero,List.take_of_length_le (by rw [L1.out];omega)];omega,fun i _=>getD_replicate _ _,⟨by omega,hd0⟩,hb0⟩
 have hd:(d == 0)=false:=by rw [beq_eq_false_iff_ne];omega
 have A5:=hid a5.trim
 have A4:=hid a4.trim
 have V:=hid (Nm.val_trim zs)
 have HT:=hid T1
 clear T1 tz ho hb0 a4 a5
 rw [hW0] at hmk
 clear hW0
 have fin:∀(os:List Int) (r:Int) (wr:World),DivInv w.heap.size N w (Nm.trim zs) d 0 r os wr→
   Ans w.heap.size wr (some ⟨w.heap.size,0,none⟩) (Nm.trim os) (Nm.val (Nm.trim os))∧(0≤r∧r<d)∧Hid (Nm.val (Nm.trim os)*d+r=Nm.val zs)∧Below w.heap.size w wr∧(Nm.trim os).length=Nm.tsize os:=by
  intro os r wr I
  obtain ⟨i1,i2,i3,i4,i5,i6,i7⟩:=I
  refine ⟨⟨i1.lies.trim,i3.trim,by rw [Nm.trim_trim,Nm.trim_length],rfl,fun a h=>by cases h;exact Nat.le_refl _⟩,i6,?_,i7,Nm.trim_length os⟩
  show _=_
  rw [Nm.val_trim,←V.out,←i4]
  simp [Nm.pw,Nm.val]
 have FIN:=hid fin
 clear fin
 by_cases h0:N=0
 ·subst h0
  have hmk1:(Instr.makeSlice 50 (.int .i64 0) (.int .i64 0)).run Tryz.prog w=.ok (.slice (some ⟨w.heap.size,0,none⟩) 0 0) W0:=hmk
  clear hmk
  go_enter Tryz.func322,Tryz.ntmps322
  go_wp2_with fail
  refine HT.out.mono ?_
  rintro e w' ⟨rfl,rfl⟩
  go_wp2_with fail
  refine wp_loop_rounds 1 ?_
  rw [rounds_succ]
  go_wp2_with fail
  refine (trimmed_any (some ⟨w'.heap.size,0,none⟩) 0 0 (List.replicate 0 0) _ rfl (Nat.le_refl _) (by omega) (Lies.nil _ _)).mono ?_
  rintro e w3 ⟨rfl,rfl⟩
  have F:=FIN.out _ _ _ I0
  have HF:=hid F
  clear F I0
  go_wp2_with fail
  go_ret3
  exact ⟨_,_,_,rfl,HF.out.1,HF.out.2.1,HF.out.2.2.1,HF.out.2.2.2.1⟩
 ·obtain ⟨b,off,rfl,hbw,HC⟩:=A4.out.at (by rw [L1.out];omega)
  go_enter Tryz.func322,Tryz.ntmps322
  go_wp2_with fail
  refine HT.out.mono ?_
  rintro e w' ⟨rfl,rfl⟩
  go_wp2_with fail
  go_loopw [9,10] (fun a i wr=>∃(j:Nat) (rr:Int) (os:List Int),j≤N∧i=.int .i64 ((j:Int) - 1)∧a=.int .u64 rr∧DivInv w'.heap.size N w' (Nm.trim zs) d j rr os wr) (fun _ i _=>(intOf i+1).toNat)
  case atStart=>exact ⟨N,0,_,Nat.le_refl _,rfl,rfl,I0⟩
  case round=>
   clear I0 hmk
   obtain ⟨j,rr,os,hj,rfl,rfl,I⟩:=hrel
   by_cases hj0:j=0
   ·subst hj0
    have F:=FIN.out _ _ _ I
    have HF:=hid F
    have TR:=hid (trimmed_any (some ⟨w'.heap.size,0,none⟩) N N os wr I.2.1 (Nat.le_refl _) (by omega) I.1.lies)
    clear F I
    go_wp2_with fail
    refine TR.out.mono ?_
    rintro e w3 ⟨rfl,rfl⟩
    go_wp2_with fail
    go_ret3
    exact ⟨some ⟨w'.heap.size,0,none⟩,Nm.trim os,rr,ret_div HF.out.2.2.2.2.symm,HF.out.1,HF.out.2.1,HF.out.2.2.1,HF.out.2.2.2.1⟩
   ·obtain ⟨t,rfl⟩:∃t,j=t+1:=⟨j - 1,by omega⟩
    obtain ⟨x,hx,X⟩:∃x,wr.cell? ⟨b,off+t,none⟩=some (.int .u64 x)∧Hid (x=(Nm.trim zs).getD t 0):=⟨_,(I.2.2.2.2.2.2.cell (p:=⟨b,off+t,none⟩) hbw).trans (HC.out t (by rw [L1.out];omega)),rfl⟩
    have hx0:=A5.out.at t
    rw [←X.out] at hx0
    obtain ⟨hx0,hx1⟩:=hx0
    obtain ⟨hr0,hr1⟩:=I.2.2.2.2.2.1
    have htN:(t:Int)<(N:Int):=by omega
    go_wp2_with fail
    refine (div64 rr x d _ hr0 hr1 hx0 hx1 hd1).mono ?_
    rintro e w2 ⟨q,r',rfl,⟨q0,q1,s0,s1⟩,E,hb⟩
    have I2:=I.step (by rw [L1.out];omega) (by omega) hb X.out E.out ⟨q0,q1⟩ ⟨s0,s1⟩
    have ho2:=I.1.below hb I.1.lt
    obtain ⟨y,hyc⟩:∃y,w2.cell? ⟨w'.heap.size,t,none⟩=some (.int .u64 y):=⟨_,ho2.cell t (by have:=I.2.1;omega)⟩
    have hfr:=ho2.free t
    clear I hx hb ho2
    go_wp2
    go_roundw
    case rel=>exact ⟨t,r',_,by omega,by go_num,rfl,I2⟩
    case measure=>simp [intOf]
end Go.Proofs.YtbdhlfklcdegdaaGreatDoor

namespace Go.Proofs.YtbdhlfklcdegdaaGreatDoor
open Go.RowKit Go.Deep
structure ShutL (p:Prop):Prop where
 out:p
theorem wpList_append_l {ty:TypeId} {ops:Array Oper} {rest:List Oper} {o:Oper} {a:Act} {Q:Exit→Act→World→Prop} (hgd:o.guard=none) (s x:Operand)
  (ho:o.op=.call { callee:=.builtin .append,args:=#[s,x],argTypes:=#[ty,ty] }) {v y v':Value} {w w':World} (hr:(Builtin.append_ #[ty,ty] o.type #[v,y]).run Tryz.prog w=.ok v' w') (hs:a.eval s=v) (hx:a.eval x=y)
  (h:wpList Tryz.prog ops Q rest (a.put o.dst v') w'):wpList Tryz.prog ops Q (o::rest) a w:=by
 refine wpList_plain hgd fun K hK=>?_
 unfold Oper.wp execOp
 simp only [ho,resolve,invoke,builtin,Sem.run_bind,Sem.run_pure,Result.andThen_ok,List.map_toArray,List.map_cons,List.map_nil,hs,hx,hr]
 exact hK _ _ h
structure RowsIn (base:Nat) (b A:Int) (mv:Value) (l:List (Option Addr × List Int)) (w:World):Prop where
 own:w.ownsRow base 50 1 mv l.length (l.map rowV)
 row:∀i e,l[i]?=some e→RowIn w mv e (b^(2^i))∧b^(2^i)≤A
theorem RowsIn.below {base:Nat} {b A:Int} {mv:Value} {l:List (Option Addr × List Int)} {w w':World} (h:RowsIn base b A mv l w) (hb:Below w.heap.size w w'):RowsIn base b A mv l w':=
 ⟨h.own.kept (row:=none) ⟨hb.os,hb.tape,hb.output,hb.size,fun j hj _=>hb.block j hj⟩ (by cases h:Value.ownBlock mv <;> simp),fun i e he=>⟨(h.row i e he).1.below hb,(h.row i e he).2⟩⟩
theorem pw_big:Nm.pw 4096=2^262144:=by rw [Nm.pw_two 4096,show 64*4096=262144 from rfl]
inductive SqNext (b:Int) (k:Nat) (mv:Value) (r:Option Addr) (us:List Int) (w:World):Int→Prop
 | go:b^(2^k)<Nm.pw 4096→RowIn w mv (r,us) (b^(2^k))→SqNext b k mv r us w 0
 | stop:Nm.pw 4096≤b^(2^k)→SqNext b k mv r us w 2
theorem RowsIn.few {base:Nat} {b A:Int} {mv:Value} {l:List (Option Addr × List Int)} {w:World} (h:RowsIn base b A mv l w) (hb:2≤b) (hA:A<Nm.pw 4096):l.length≤18:=by
 rcases Nat.eq_zero_or_pos l.length with c | c
 ·omega
 ·have he:l[l.length - 1]?=some l[l.length - 1]:=List.getElem?_eq_getElem (by omega)
  have:=Ln.few hb (h.row _ _ he).2 (by rw [←pw_big];exact hA)
  omega
set_option maxRecDepth 100000 in
set_option maxHeartbeats 4000000 in
theorem nsquares_any (p q:Option Addr) (m cap':Nat) (os za:List Int) (b A:Int) (B:Nat) (w:World) (hp:Ans B w p os b) (hb0:2≤b) (hb1:b<18446744073709551616) (ha:Arg w q m cap' za) (hA:Nm.val za=A) (ts:Nm.tsize za≤4096):
  Calls Tryz.prog 304 #[.slice p (List.length os) (List.length os),.slice q m cap'] w fun e w'=>∃mv l,e=.returned mv∧Hid (RowsIn w.heap.size b A mv l w'∧A<b^(2^l.length)∧l.length≤18∧Below w.heap.size w w'):=by
 have hAs:ShutL (A<Nm.pw 4096):=⟨by rw [←hA];exact (Nm.tsize_le_iff ha.2.2.2.2 4096).1 ts⟩
 have HV:=hid hA
 have HA:=hid ha
 have HB:=hid hb0
 have P0:Hid (RowIn w (.slice none 0 0) (p,os) (b^(2^0))):=by
  show RowIn _ _ _ _
  rw [Nat.pow_zero,Int.pow_succ,Int.pow_zero,Int.one_mul]
  refine ⟨hp.1,hp.2.1,hp.2.2.1,hp.2.2.2.1,fun a ha=>⟨hp.1.lt ?_ a ha,by simp [Value.ownBlock]⟩⟩
  rcases Nat.eq_zero_or_pos os.length with c | c
  ·have:=hp.2.2.2.1
   rw [List.eq_nil_of_length_eq_zero c] at this
   simp [Nm.val] at this
   omega
  ·exact c
 have S0:ShutL (b^(2^0)<Nm.pw 4096):=by
  refine ⟨?_⟩
  rw [Nat.pow_zero,Int.pow_succ,Int.pow_zero,Int.one_mul]
  have h:=Nm.pw_mono (show 1≤4096 by omega)
  have e:Nm.pw 1=18446744073709551616:=by simp [Nm.pw]
  rw [e] at h
  exact Int.lt_of_lt_of_le hb1 h
 clear hp hb0 hb1 ha hA ts
 go_enter Tryz.func304,Tryz.ntmps304
 go_wp2_with fail
 go_loopg [0,5,6] 20 (fun x a c e wr=>∃(mv:Value) (l:List (Option Addr × List Int)) (r:Option Addr) (us:List Int) (E:Int),a=.slice r (List.length us) (List.length us)∧c=mv∧e=.int .i64 E∧Hid (x+l.length=20)∧Hid (RowsIn w.heap.size b A mv l wr)∧Hid (Below w.heap.size w wr)∧SqNext b l.length mv r us wr E)
 case atStart=>exact ⟨.slice none 0 0,[],p,os,0,rfl,rfl,rfl,rfl,⟨World.ownsRow_nil _ _ _ _,fun i e h=>by simp at h⟩,Below.refl _ _,.go S0.out P0.out⟩
 case round=>
  clear P0 S0
  obtain ⟨mv,l,r,us,E,rfl,hmv,rfl,GK,RI,D,W⟩:=hrel
  have hmv:=hmv.symm
  subst hmv
  have L18:=hid (RI.out.few HB.out hAs.out)
  have W0:(E=0∧b^(2^l.length)<Nm.pw 4096∧RowIn wr mv (r,us) (b^(2^l.length)))∨(E=2∧Nm.pw 4096≤b^(2^l.length)):=by
   cases W with
   | go h1 h2=>exact .inl ⟨rfl,h1,h2⟩
   | stop h=>exact .inr ⟨rfl,h⟩
  clear W
  rcases W0 with ⟨hE,hs,hr⟩ | ⟨hE,hs⟩
  ·subst hE
   have HS:ShutL (b^(2^l.length)<Nm.pw 4096):=⟨hs⟩
   have HR:=hid hr
   have lus:Hid (us.length≤4096):=by
    show _≤_
    have h1:=(Nm.tsize_le_iff hr.2.1 4096).2 (by rw [hr.2.2.2.1];exact hs)
    have h2:=hr.2.2.1
    simp only at h1 h2
    omega
   have HAr:=hid (HA.out.below D.out (Nat.le_refl _))
   obtain ⟨c,hc0⟩:∃c,cmpI (b^(2^l.length)) A=c:=⟨_,rfl⟩
   have HC:=hid hc0
   clear hc0
   have CM:=hid (cmp_is c r q _ _ m cap' us za wr (hr.arg (by have:=lus.out;simp only;omega)) HAr.out (by rw [show Nm.val us=b^(2^l.length) from hr.2.2.2.1,HV.out];exact HC.out))
   clear hs hr HAr
   by_cases hgt:A<b^(2^l.length)
   ·have hc:c=1:=by rw [←HC.out];exact cmpI_gt hgt
    have HG:=hid hgt
    subst hc
    clear hgt
    go_wp2_with fail
    refine CM.out.mono ?_
    rintro e w1 ⟨rfl,d1⟩
    have F:Hid (RowsIn w.heap.size b A mv l w1∧A<b^(2^l.length)∧l.length≤18∧Below w.heap.size w w1):=⟨RI.out.below d1,HG.out,L18.out,chain D.out d1 (Nat.le_refl _)⟩
    clear d1
    go_wp2_with fail
    go_ret
    exact ⟨mv,l,rfl,F⟩
   ·have hcle:c≤0:=by
     rw [←HC.out]
     rcases (show b^(2^l.length)=A∨b^(2^l.length)<A by omega) with h | h
     ·rw [cmpI_eq h];omega
     ·rw [cmpI_lt h];omega
    have HLE:Hid (b^(2^l.length)≤A):=by show _≤_;omega
    clear hgt
    go_wp2_with fail
    refine CM.out.mono ?_
    rintro e w1 ⟨rfl,d1⟩
    have RI1:=RI.out.below d1
    have HR1:=HR.out.below d1
    have D1:=hid (chain D.out d1 (Nat.le_refl _))
    obtain ⟨mv',w2,ap,j1,j2,j3,j4,j5⟩:=pushRow w.heap.size l.length mv (l.map rowV) (rowV (r,us)) w1 (by have:=L18.out;omega) rfl D1.out.size RI1.own
    have AP:Hid ((Builtin.append_ #[304,304] 304 #[mv,.slice (some ⟨w1.heap.size,0,none⟩) 1 1]).run Tryz.prog (w1.alloc (.cells #[.slice r (List.length us) (List.length us)] 50))=.ok mv' w2):=ap
    have D2:=hid (D1.out.trans j2)
    have HR2:=hid (HR1.pushed j3 j4 j5)
    have RI2:Hid (RowsIn w.heap.size b A mv' (l++[(r,us)]) w2):=by
     refine ⟨by simpa using j1,fun i e he=>?_⟩
     by_cases hi:i<l.length
     ·rw [List.getElem?_append_left hi] at he
      exact ⟨(RI1.row i e he).1.pushed j3 j4 j5,(RI1.row i e he).2⟩
     ·have hlt:=(List.getElem?_eq_some_iff.1 he).1
      simp only [List.length_append,List.length_cons,List.length_nil] at hlt
      have hi2:i=l.length:=by omega
      subst hi2
      rw [List.getElem?_append_right (by omega),Nat.sub_self] at he
      simp at he
      subst he
      exact ⟨HR1.pushed j3 j4 j5,HLE.out⟩
    have MU:=hid (mul_gives r r _ _ _ _ us us (b^(2^(l.length+1))) w2 (HR2.out.arg (by have:=lus.out;simp only;omega)) (HR2.out.arg (by have:=lus.out;simp only;omega)) (by rw [show Nm.tsize us=us.length from HR2.out.2.2.1];exact lus.out) (by rw [show Nm.tsize us=us.length from HR2.out.2.2.1];exact lus.out) (by rw [show Nm.val us=b^(2^l.length) from HR2.out.2.2.2.1];exact Ln.square b l.length))
    have BP:=hid (show 0<b^(2^(l.length+1)) from Int.pow_pos (by have:=HB.out;omega))
    clear ap j1 j2 j3 j4 j5 RI1 HR1 d1 CM RI D HR
    go_wp2_with (at_builtin;refine wpList_append_l rfl _ _ rfl AP.out (by rfl) (by rfl) ?_;clear AP)
    refine MU.out.mono ?_
    rintro e w3 ⟨h | h,d3⟩
    ·obtain ⟨h1,r3,us3,rfl,A3⟩:=h
     have N3:SqNext b (l.length+1) mv' r3 us3 w3 0:=.go h1 (A3.row rfl RI2.out.own BP.out)
     have RI3:=hid (RI2.out.below d3)
     have D3:=hid (chain D2.out d3 (Nat.le_refl _))
     clear h1 A3 d3 MU
     go_wp2_with fail
     go_roundg (19 - l.length)
     case measure=>have:=GK.out;have:=L18.out;omega
     case rel=>exact ⟨mv',l++[(r,us)],r3,us3,0,rfl,rfl,rfl,by show _=_;have:=L18.out;rw [List.length_append];simp only [List.length_cons,List.length_nil];omega,RI3.out,D3.out,by rw [List.length_append];exact N3⟩
    ·obtain ⟨h1,rfl⟩:=h
     have N3:SqNext b (l.length+1) mv' none [] w3 2:=.stop h1
     have RI3:=hid (RI2.out.below d3)
     have D3:=hid (chain D2.out d3 (Nat.le_refl _))
     clear h1 d3 MU
     go_wp2_with fail
     go_roundg (19 - l.length)
     case measure=>have:=GK.out;have:=L18.out;omega
     case rel=>exact ⟨mv',l++[(r,us)],none,[],2,rfl,rfl,rfl,by show _=_;have:=L18.out;rw [List.length_append];simp only [List.length_cons,List.length_nil];omega,RI3.out,D3.out,by rw [List.length_append];exact N3⟩
  ·subst hE
   have F:Hid (RowsIn w.heap.size b A mv l wr∧A<b^(2^l.length)∧l.length≤18∧Below w.heap.size w wr):=⟨RI.out,Int.lt_of_lt_of_le hAs.out hs,L18.out,D.out⟩
   clear hs
   go_wp2_with fail
   go_ret
   exact ⟨mv,rfl,l,F⟩
end Go.Proofs.YtbdhlfklcdegdaaGreatDoor
