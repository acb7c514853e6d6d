/-
  Texts put together: FApi, FNearN, FCl2, FHeadsN, FCutsN.
-/
import Derived.Test.YtbdhlfklcdegdaaGreatDoorWBM
import Derived.Test.YtbdhlfklcdegdaaGreatDoorFKept
import Derived.BigQuiet
import Derived.Test.YtbdhlfklcdegdaaGreatDoorFRdN
namespace Go.Proofs.YtbdhlfklcdegdaaGreatDoor
open Go Go.RowKit Go.Deep
namespace Fx
def rf (d n l:Int):Int:=if Ie.fnt d=true then (if n<l∨4200<n then 1 else 0) else 5
theorem rf_zero {d n l:Int}:rf d n l=0↔Ie.fnt d=true∧l≤n∧n≤4200:=by
 unfold rf
 by_cases h:Ie.fnt d=true
 ·rw [if_pos h]
  by_cases g:n<l∨4200<n
  ·rw [if_pos g];omega
  ·rw [if_neg g];simp [h];omega
 ·rw [if_neg h];simp [h]
noncomputable def W (d:Int) (n:Nat):List Int:=List.replicate (n+1 - (kp (X d) ((X d).length+P d+n)).length) 48++kp (X d) ((X d).length+P d+n)
noncomputable def pA (d n:Int):List Int:=if rf d n 0=0 then (W d n.toNat).take ((W d n.toNat).length - n.toNat) else []
noncomputable def pB (d n:Int):List Int:=if rf d n 0=0 then (W d n.toNat).drop ((W d n.toNat).length - n.toNat) else []
noncomputable def gS (d n:Int):List Int:=if rf d n 1=0 then (kp (X d) n).take n.toNat else []
noncomputable def gK (d n:Int):Int:=if rf d n 1=0 then (X d).length - 1+P d+(if n<(kp (X d) n).length then 1 else 0) else 0
theorem W_len (d:Int) (n:Nat):n+1≤(W d n).length:=by
 unfold W
 rw [List.length_append,List.length_replicate]
 omega
theorem kp_len_le {xs:List Int} {c:Int} {m:Nat} (hc:c≤m) (hx:xs.length≤m):(kp xs c).length≤m+1:=by
 unfold kp
 split
 ·simp
 ·split
  ·rw [List.length_append,List.length_replicate];omega
  ·rw [rd_len];split <;> omega
end Fx
set_option maxRecDepth 100000 in
theorem refused_any (d n l:Int) (w:World) (h0:0≤d) (h1:d<18446744073709551616):
  Calls Tryz.prog 237 #[.int .u64 d,.int .i64 n,.int .i64 l] w fun e w'=>e=.returned (.int .i64 (Fx.rf d n l))∧w'=w:=by
 have FN:=hid (fun wx:World=>ffinite_any d wx h0 h1)
 have E:Hid (Fx.rf d n l=if Ie.fnt d=true then (if n<l∨4200<n then 1 else 0) else 5):=rfl
 generalize Ie.fnt d=f at *
 clear h0 h1
 cases f
 ·have E2:Hid (Fx.rf d n l=5):=E.out
  clear E
  go_enter Tryz.func237,Tryz.ntmps237
  go_wp2_with fail
  refine (FN.out _).mono ?_
  rintro e w' ⟨rfl,rfl⟩
  go_wp2_with fail
  go_ret
  exact ⟨i_retI E2.out.symm,rfl⟩
 ·have E2:Hid (Fx.rf d n l=if n<l∨4200<n then 1 else 0):=E.out
  clear E
  rcases (show n<l∨(l≤n∧4200<n)∨(l≤n∧n≤4200) by omega) with h | ⟨h,h'⟩ | ⟨h,h'⟩
  ·have E3:Hid (Fx.rf d n l=1):=by rw [Hid,E2.out,if_pos (.inl h)]
   clear E2
   go_enter Tryz.func237,Tryz.ntmps237
   go_wp2_with fail
   refine (FN.out _).mono ?_
   rintro e w' ⟨rfl,rfl⟩
   go_wp2_with fail
   go_ret
   exact ⟨i_retI E3.out.symm,rfl⟩
  ·have E3:Hid (Fx.rf d n l=1):=by rw [Hid,E2.out,if_pos (.inr h')]
   clear E2
   go_enter Tryz.func237,Tryz.ntmps237
   go_wp2_with fail
   refine (FN.out _).mono ?_
   rintro e w' ⟨rfl,rfl⟩
   go_wp2_with fail
   go_ret
   exact ⟨i_retI E3.out.symm,rfl⟩
  ·have E3:Hid (Fx.rf d n l=0):=by rw [Hid,E2.out,if_neg (by omega)]
   clear E2
   go_enter Tryz.func237,Tryz.ntmps237
   go_wp2_with fail
   refine (FN.out _).mono ?_
   rintro e w' ⟨rfl,rfl⟩
   go_wp2_with fail
   go_ret
   exact ⟨i_retI E3.out.symm,rfl⟩
def PlacesTold (d n:Int) (w:World) (e:Ending) (w':World):Prop:=
 ∃s t,e=.returned (.tuple #[.string s,.string t,.int .i64 (Fx.rf d n 0)])∧Str s (Fx.pA d n)∧Str t (Fx.pB d n)∧Below w.heap.size w w'
def FiguresTold (d n:Int) (w:World) (e:Ending) (w':World):Prop:=
 ∃s,e=.returned (.tuple #[.string s,.int .i64 (Fx.gK d n),.int .i64 (Fx.rf d n 1)])∧Str s (Fx.gS d n)∧Below w.heap.size w w'
set_option maxRecDepth 100000 in
set_option maxHeartbeats 4000000 in
theorem places_any (d n:Int) (w:World) (hT:Tab w) (h0:0≤d) (h1:d<18446744073709551616):
  Calls Tryz.prog 171 #[.int .u64 d,.int .i64 n] w fun e w'=>PlacesTold d n w e w':=by
 have RF:=hid (refused_any d n 0 w h0 h1)
 by_cases hr:Fx.rf d n 0=0
 ·obtain ⟨hf,hn0,hn1⟩:=Fx.rf_zero.1 hr
  obtain ⟨k,rfl⟩:=Int.eq_ofNat_of_zero_le hn0
  have EX:=exact_any d w hT h0 h1 (of_decide_eq_true hf)
  unfold ExTold at EX
  rw [←Fx.X,←Fx.P] at EX
  have HE:=hid EX
  obtain ⟨r1,r2,r3,r4,r5⟩:=Fx.X_room hf
  have KE:Hid (∀(wx:World) (s:ByteArray),Str s (Fx.X d)→Calls Tryz.prog 239 #[.string s,.int .i64 ((Fx.X d).length+Fx.P d+k)] wx fun e w'=>∃s',e=.returned (.string s')∧Str s' (Fx.kp (Fx.X d) ((Fx.X d).length+Fx.P d+k))∧Below wx.heap.size wx w'):=
   fun wx s hs=>kept_any s _ _ wx hs (Fx.X_digs hf).1 (Fx.X_digs hf).2 (by omega) (by omega)
  have LB:(Fx.kp (Fx.X d) ((Fx.X d).length+Fx.P d+k)).length≤6000:=by
   have:=Fx.kp_len_le (xs:=Fx.X d) (c:=(Fx.X d).length+Fx.P d+k) (m:=5999) (by omega) (by omega)
   omega
  have G:Hid (∀(w':World) (a b:ByteArray),Str a (List.replicate (k+1 - (Fx.kp (Fx.X d) ((Fx.X d).length+Fx.P d+k)).length) 48)→Str b (Fx.kp (Fx.X d) ((Fx.X d).length+Fx.P d+k))→Below w.heap.size w w'→k≤(a++b).size∧(a++b).size≤12000∧PlacesTold d k w (.returned (.tuple #[.string ((a++b).extract 0 ((a++b).size - k)),.string ((a++b).extract ((a++b).size - k) (a++b).size),.int .i64 0])) w'):=by
   intro w' a b ha hb hB
   have hab:Str (a++b) (Fx.W d k):=ha.app hb
   have hz:=hab.size
   have hwl:=Fx.W_len d k
   have e1:=hab.extract 0 ((a++b).size - k)
   have e2:=hab.extract ((a++b).size - k) (a++b).size
   rw [List.drop_zero,Nat.sub_zero] at e1
   rw [List.take_of_length_le (by rw [List.length_drop,hz];omega)] at e2
   rw [hz] at e1 e2
   refine ⟨by omega,?_,⟨_,_,by rw [hr],?_,?_,hB⟩⟩
   ·rw [hz]
    unfold Fx.W
    rw [List.length_append,List.length_replicate]
    omega
   ·rw [Fx.pA,if_pos hr,Int.toNat_natCast,hz];exact e1
   ·rw [Fx.pB,if_pos hr,Int.toNat_natCast,hz];exact e2
  rw [hr] at RF
  obtain ⟨L,hL⟩:∃L,(Fx.X d).length=L:=⟨_,rfl⟩
  have LS:Hid (∀s,Str s (Fx.X d)→s.size=L):=fun s hs=>by rw [hs.size,hL]
  rw [hL] at KE LB G r1 r2 r4 r5
  generalize Fx.X d=X at *
  generalize Fx.P d=Q at *
  obtain ⟨c,hc⟩:∃c,(L:Int)+Q+k=c:=⟨_,rfl⟩
  rw [hc] at KE LB G
  generalize hkp:Fx.kp X c=V at *
  clear hkp hf hr EX hT h0 h1 hL
  obtain ⟨v,hv⟩:∃v,V.length=v:=⟨_,rfl⟩
  have VS:Hid (∀s,Str s V→s.size=v):=fun s hs=>by rw [hs.size,hv]
  rw [hv] at LB G
  clear hv
  obtain ⟨z,hz⟩:∃z,k+1 - v=z:=⟨_,rfl⟩
  rw [hz] at G
  have MX:max ((k:Int)+1 - (v:Int)) 0=(z:Int):=by omega
  have RE:=hid (fun wx:World=>frepeat_any z wx (by omega))
  have kb:(k:Int)≤4200:=hn1
  have vb:(v:Int)≤6000:=by omega
  clear hn0 hn1 LB
  go_enter Tryz.func171,Tryz.ntmps171
  go_wp2_with fail
  refine RF.out.mono ?_
  rintro e wz ⟨rfl,hz⟩
  replace hz:=hz.symm
  subst hz
  go_wp2_with fail
  refine HE.out.mono ?_
  rintro e w1 ⟨s,rfl,hs,B1⟩
  have hsz:=LS.out s hs
  have K1:=hid (KE.out w1 s hs)
  have HB:=hid B1
  clear B1 hs KE HE LS RF
  go_wp2_with fail
  refine K1.out.mono ?_
  rintro e w2 ⟨t,rfl,ht,B2⟩
  have htz:=VS.out t ht
  have HT2:=hid ht
  have HB2:=hid (HB.out.trans (B2.mono HB.out.size))
  clear B2 ht K1 HB VS
  go_wp2_with fail
  refine (RE.out _).mono ?_
  rintro e w3 ⟨a,rfl,ha,B3⟩
  have haz:a.size=z:=by rw [ha.size,List.length_replicate]
  obtain ⟨g1,g2,-⟩:=G.out _ a t ha HT2.out (HB2.out.trans (B3.mono HB2.out.size))
  have HG:=hid (fun q:Nat=>(G.out _ a t ha HT2.out (below_drewN (HB2.out.trans (B3.mono HB2.out.size)) q)).2.2)
  clear ha B3 G HB2 RE
  go_upto_region 7 with fail
  generalize a++t=ab at *
  obtain ⟨N,hN⟩:∃N,ab.size=N:=⟨_,rfl⟩
  rw [hN] at HG g1 g2
  obtain ⟨j,hj⟩:∃j,N - k=j:=⟨_,rfl⟩
  rw [hj] at HG
  have nj:(N:Int) - (k:Int)=(j:Int):=by omega
  have jN:(j:Int)≤(N:Int):=by omega
  have nb:(N:Int)≤12000:=by omega
  clear hj hz MX hc
  go_quiet (fail)
  go_wp2_with fail
  go_ret3
  exact HG.out _
 ·have F:Hid (PlacesTold d n w (.returned (.tuple #[.string ⟨#[]⟩,.string ⟨#[]⟩,.int .i64 (Fx.rf d n 0)])) w):=⟨_,_,rfl,by rw [Fx.pA,if_neg hr];rfl,by rw [Fx.pB,if_neg hr];rfl,Below.refl _ _⟩
  have hr':(Fx.rf d n 0 == 0)=false:=by rw [beq_eq_false_iff_ne];exact hr
  have hr2:(Fx.rf d n 0 != 0)=true:=by simp [bne,hr']
  generalize Fx.rf d n 0=r at *
  clear hr h0 h1 hT
  go_enter Tryz.func171,Tryz.ntmps171
  go_wp2_with fail
  refine RF.out.mono ?_
  rintro e wz ⟨rfl,hz⟩
  replace hz:=hz.symm
  subst hz
  go_wp2_with fail
  go_ret3
  exact F.out
set_option maxRecDepth 100000 in
set_option maxHeartbeats 4000000 in
theorem figures_any (d n:Int) (w:World) (hT:Tab w) (h0:0≤d) (h1:d<18446744073709551616):
  Calls Tryz.prog 172 #[.int .u64 d,.int .i64 n] w fun e w'=>FiguresTold d n w e w':=by
 have RF:=hid (refused_any d n 1 w h0 h1)
 by_cases hr:Fx.rf d n 1=0
 ·obtain ⟨hf,hn0,hn1⟩:=Fx.rf_zero.1 hr
  obtain ⟨k,rfl⟩:=Int.eq_ofNat_of_zero_le (show 0≤n by omega)
  have EX:=exact_any d w hT h0 h1 (of_decide_eq_true hf)
  unfold ExTold at EX
  rw [←Fx.X,←Fx.P] at EX
  have HE:=hid EX
  obtain ⟨r1,r2,r3,r4,r5⟩:=Fx.X_room hf
  have KE:Hid (∀(wx:World) (s:ByteArray),Str s (Fx.X d)→Calls Tryz.prog 239 #[.string s,.int .i64 (k:Int)] wx fun e w'=>∃s',e=.returned (.string s')∧Str s' (Fx.kp (Fx.X d) k)∧Below wx.heap.size wx w'):=
   fun wx s hs=>kept_any s _ _ wx hs (Fx.X_digs hf).1 (Fx.X_digs hf).2 (by omega) (by omega)
  have LB:(Fx.kp (Fx.X d) k).length≤6000:=by
   have:=Fx.kp_len_le (xs:=Fx.X d) (c:=k) (m:=5999) (by omega) (by omega)
   omega
  have GA:Hid (∀(w':World) (b:ByteArray),Str b (Fx.kp (Fx.X d) k)→Below w.heap.size w w'→k<(Fx.kp (Fx.X d) k).length→FiguresTold d k w (.returned (.tuple #[.string (b.extract 0 k),.int .i64 ((Fx.X d).length - 1+Fx.P d+1),.int .i64 0])) w'):=by
   intro w' b hb hB hl
   have e1:=hb.extract 0 k
   rw [List.drop_zero,Nat.sub_zero] at e1
   refine ⟨_,by rw [Fx.gK,if_pos hr,if_pos (by omega),hr],?_,hB⟩
   rw [Fx.gS,if_pos hr,Int.toNat_natCast]
   exact e1
  have GB:Hid (∀(w':World) (b:ByteArray),Str b (Fx.kp (Fx.X d) k)→Below w.heap.size w w'→¬k<(Fx.kp (Fx.X d) k).length→FiguresTold d k w (.returned (.tuple #[.string b,.int .i64 ((Fx.X d).length - 1+Fx.P d),.int .i64 0])) w'):=by
   intro w' b hb hB hl
   refine ⟨_,by rw [Fx.gK,if_pos hr,if_neg (by omega),Int.add_zero,hr],?_,hB⟩
   rw [Fx.gS,if_pos hr,Int.toNat_natCast,List.take_of_length_le (by omega)]
   exact hb
  rw [hr] at RF
  obtain ⟨L,hL⟩:∃L,(Fx.X d).length=L:=⟨_,rfl⟩
  have LS:Hid (∀s,Str s (Fx.X d)→s.size=L):=fun s hs=>by rw [hs.size,hL]
  rw [hL] at GA GB r1 r2 r4 r5
  generalize Fx.X d=X at *
  generalize Fx.P d=Q at *
  generalize hkp:Fx.kp X k=V at *
  clear hkp hf hr EX hT h0 h1 hL
  obtain ⟨v,hv⟩:∃v,V.length=v:=⟨_,rfl⟩
  have VS:Hid (∀s,Str s V→s.size=v):=fun s hs=>by rw [hs.size,hv]
  rw [hv] at LB GA GB
  clear hv
  have kb:(k:Int)≤4200:=hn1
  have vb:(v:Int)≤6000:=by omega
  have l1:(1:Int)≤(L:Int):=by omega
  have l2:(L:Int)≤1383:=by omega
  clear hn0 hn1 LB
  go_enter Tryz.func172,Tryz.ntmps172
  go_wp2_with fail
  refine RF.out.mono ?_
  rintro e wz ⟨rfl,hz⟩
  replace hz:=hz.symm
  subst hz
  go_wp2_with fail
  refine HE.out.mono ?_
  rintro e w1 ⟨s,rfl,hs,B1⟩
  have hsz:=LS.out s hs
  have K1:=hid (KE.out w1 s hs)
  have HB:=hid B1
  clear B1 hs KE HE LS RF
  go_wp2_with fail
  refine K1.out.mono ?_
  rintro e w2 ⟨t,rfl,ht,B2⟩
  have htz:=VS.out t ht
  have HB2:=hid (HB.out.trans (B2.mono HB.out.size))
  by_cases hvk:k<v
  ·have K:=hid (GA.out w2 t ht HB2.out hvk)
   have hvi:(k:Int)<(v:Int):=by omega
   clear B2 ht K1 HB VS GA GB
   go_wp2_with fail
   go_ret3
   exact K.out
  ·have K:=hid (GB.out w2 t ht HB2.out hvk)
   have hvi:¬(k:Int)<(v:Int):=by omega
   clear B2 ht K1 HB VS GA GB
   go_wp2_with fail
   go_ret3
   exact K.out
 ·have F:Hid (FiguresTold d n w (.returned (.tuple #[.string ⟨#[]⟩,.int .i64 0,.int .i64 (Fx.rf d n 1)])) w):=⟨_,by rw [Fx.gK,if_neg hr],by rw [Fx.gS,if_neg hr];rfl,Below.refl _ _⟩
  have hr':(Fx.rf d n 1 == 0)=false:=by rw [beq_eq_false_iff_ne];exact hr
  have hr2:(Fx.rf d n 1 != 0)=true:=by simp [bne,hr']
  generalize Fx.rf d n 1=r at *
  clear hr h0 h1 hT
  go_enter Tryz.func172,Tryz.ntmps172
  go_wp2_with fail
  refine RF.out.mono ?_
  rintro e wz ⟨rfl,hz⟩
  replace hz:=hz.symm
  subst hz
  go_wp2_with fail
  go_ret3
  exact F.out
end Go.Proofs.YtbdhlfklcdegdaaGreatDoor

namespace Go.Proofs.YtbdhlfklcdegdaaGreatDoor
open Go Go.RowKit Go.Deep
namespace Fx
def Nr (w A D:Int):Prop:=2*(w*D - A)≤D∧2*(A - w*D)≤D∧((2*(w*D - A)=D∨2*(A - w*D)=D)→w%2=0)
theorem nr_exact {w A D:Int} (h:w*D=A) (hD:0<D):Nr w A D:=by
 refine ⟨by omega,by omega,?_⟩
 rintro (c | c) <;> omega
theorem nr_of {w A D N T:Int} (hT:0<T) (hD:0<D) (h:N*D=A*T) (h1:2*(w*T - N)≤T) (h2:2*(N - w*T)≤T) (h3:(2*(w*T - N)=T∨2*(N - w*T)=T)→w%2=0):Nr w A D:=by
 have e1:(2*(w*D - A))*T=(2*(w*T - N))*D:=by
  rw [Int.mul_assoc,Int.mul_assoc,Int.sub_mul,Int.sub_mul,←h,Int.mul_right_comm]
 have e2:(2*(A - w*D))*T=(2*(N - w*T))*D:=by
  rw [Int.mul_assoc,Int.mul_assoc,Int.sub_mul,Int.sub_mul,←h,Int.mul_right_comm w D T]
 refine ⟨?_,?_,?_⟩
 ·refine Int.le_of_mul_le_mul_right ?_ hT
  rw [e1,Int.mul_comm D T]
  exact Int.mul_le_mul_of_nonneg_right h1 (Int.le_of_lt hD)
 ·refine Int.le_of_mul_le_mul_right ?_ hT
  rw [e2,Int.mul_comm D T]
  exact Int.mul_le_mul_of_nonneg_right h2 (Int.le_of_lt hD)
 ·intro c
  apply h3
  rcases c with c | c
  ·left
   rw [c,Int.mul_comm] at e1
   exact (Int.eq_of_mul_eq_mul_right (by omega) e1).symm
  ·right
   rw [c,Int.mul_comm] at e2
   exact (Int.eq_of_mul_eq_mul_right (by omega) e2).symm
theorem rn_near {xs:List Int} (hd:Digs xs) (k:Nat):
  2*(rn xs k*10^(xs.length - k) - dv xs)≤10^(xs.length - k)∧2*(dv xs - rn xs k*10^(xs.length - k))≤10^(xs.length - k)∧
  ((2*(rn xs k*10^(xs.length - k) - dv xs)=10^(xs.length - k)∨2*(dv xs - rn xs k*10^(xs.length - k))=10^(xs.length - k))→rn xs k%2=0):=by
 have e:dv xs=dv (xs.take k)*10^(xs.length - k)+dv (xs.drop k):=by
  conv=>lhs;rw [←List.take_append_drop k xs,dv_append,List.length_drop]
 have b:=dv_bd (ds:=xs.drop k) (fun d h=>hd d (List.mem_of_mem_drop h))
 rw [List.length_drop] at b
 unfold rn up
 generalize dv (xs.take k)=K at *
 generalize dv (xs.drop k)=R at *
 generalize (10:Int)^(xs.length - k)=T at *
 by_cases c:T<2*R∨2*R=T∧K%2=1
 ·rw [decide_eq_true c,if_pos rfl,Int.add_mul,Int.one_mul,e]
  refine ⟨by omega,by omega,?_⟩
  intro h
  rcases c with c | c <;> omega
 ·rw [decide_eq_false c,if_neg Bool.false_ne_true,Int.add_zero,e]
  refine ⟨by omega,by omega,?_⟩
  intro h
  omega
theorem W_digs {d:Int} (hf:Ie.fnt d=true) (n:Nat):Digs (W d n):=by
 have hx:=(X_digs hf).1
 intro x h
 rcases List.mem_append.1 h with h | h
 ·have:=List.eq_of_mem_replicate h;omega
 ·unfold kp at h
  split at h
  ·cases h
  ·split at h
   ·rcases List.mem_append.1 h with h | h
    ·exact hx x h
    ·have:=List.eq_of_mem_replicate h;omega
   ·exact rd_digs _ _ x h
theorem dv_W (d:Int) (n:Nat):dv (W d n)=dv (kp (X d) ((X d).length+P d+n)):=by
 unfold W
 rw [dv_append,dv_zeros,Int.zero_mul,Int.zero_add]
theorem ex_pow {m e:Int} {xs:List Int} {E:Int} (hm:0<m) (he:-1074≤e) (h:Ex m e xs E):dv xs*10^(E+1074).toNat*2^(-e).toNat=m*2^e.toNat*10^1074:=by
 rw [h.eq hm,F5]
 have e1:(e+1074).toNat+(-e).toNat=e.toNat+1074:=by omega
 have e2:(2:Int)^(e+1074).toNat*2^(-e).toNat=2^e.toNat*2^1074:=by rw [←Int.pow_add,←Int.pow_add,e1]
 generalize 1074=z at *
 rw [show (10:Int)=2*5 from rfl,Int.mul_pow]
 generalize (2:Int)^(e+1074).toNat=x1 at *
 generalize (2:Int)^(-e).toNat=x2 at *
 generalize (2:Int)^e.toNat=x3 at *
 generalize (2:Int)^z=x4 at *
 generalize (5:Int)^z=x5 at *
 rw [show m*x1*x5*x2=m*(x1*x2)*x5 by ac_rfl,e2]
 ac_rfl
theorem near_W {d:Int} (hf:Ie.fnt d=true) (n:Nat):Nr (dv (W d n)) (top d n) (2^dn d):=by
 obtain ⟨m0,m1,e0,e1,_⟩:=Ie.fdec d (of_decide_eq_true hf)
 have hD:(0:Int)<2^dn d:=Int.pow_pos (by omega)
 obtain ⟨r1,r2,r3,r4,r5⟩:=X_room hf
 rw [dv_W]
 have hx:=(X_digs hf).1
 rcases (show Ie.dm d=0∨0<Ie.dm d by omega) with hz | hz
 ·obtain ⟨a,b⟩:=X_zero hf hz
  rw [a,b]
  apply nr_exact _ hD
  have e:kp [48] (([48]:List Int).length+0+n)=48::List.replicate n 48:=by
   have:=kp_full (xs:=[48]) (c:=n+1) (by simp)
   rw [show (([48]:List Int).length:Int)+0+n=((n+1:Nat):Int) by simp;omega,this]
   simp
  rw [e,show 48::List.replicate n 48=List.replicate (n+1) (48:Int) from rfl,dv_zeros,top,hz]
  simp
 ·have q:=ex_pow hz e0 (X_ex hf)
  obtain ⟨a,ha⟩:∃a:Nat,(P d+1074).toNat=a:=⟨_,rfl⟩
  rw [ha] at q
  have q2:dv (X d)*10^a*2^dn d*10^n=top d n*10^1074:=by
   rw [dn,q,top]
   generalize (10:Int)^1074=z
   ac_rfl
  rcases (show 0≤P d+n∨P d+n<0 by omega) with c | c
  ·obtain ⟨j,hj⟩:∃j:Nat,P d+n=(j:Int):=⟨(P d+n).toNat,by omega⟩
   have e:(X d).length+P d+n=(((X d).length+j:Nat):Int):=by omega
   rw [e,kp_full (by omega),Nat.add_sub_cancel_left,dv_append,dv_zeros,List.length_replicate,Int.add_zero]
   apply nr_exact _ hD
   have e2:a+n=j+1074:=by omega
   have e3:(10:Int)^a*10^n=10^j*10^1074:=by rw [←Int.pow_add,←Int.pow_add,e2]
   refine Int.eq_of_mul_eq_mul_right (a:=10^1074) (by have:=p_pos 1074;omega) ?_
   rw [←q2]
   generalize (10:Int)^1074=z at *
   rw [show dv (X d)*10^j*2^dn d*z=dv (X d)*2^dn d*(10^j*z) by ac_rfl,←e3]
   ac_rfl
  ·obtain ⟨r,hr⟩:∃r:Nat,-(P d+n)=(r:Int):=⟨(-(P d+n)).toNat,by omega⟩
   have hN:dv (X d)*2^dn d=top d n*10^r:=by
    have e2:a+n+r=1074:=by omega
    have e3:(10:Int)^(a+n)*10^r=10^1074:=by rw [←Int.pow_add,e2]
    refine Int.eq_of_mul_eq_mul_right (a:=10^(a+n)) (by have:=p_pos (a+n);omega) ?_
    rw [Int.mul_assoc (top d n),Int.mul_comm (10^r),e3,←q2,Int.pow_add]
    ac_rfl
   rcases (show 0≤(X d).length+P d+n∨(X d).length+P d+n<0 by omega) with g | g
   ·obtain ⟨k,hk⟩:∃k:Nat,(X d).length+P d+n=(k:Int):=⟨((X d).length+P d+n).toNat,by omega⟩
    have hkl:k<(X d).length:=by omega
    rw [hk,kp_cut hkl,rd_dv hx (by omega)]
    have:=rn_near hx k
    rw [show (X d).length - k=r by omega] at this
    exact nr_of (p_pos r) hD hN this.1 this.2.1 this.2.2
   ·rw [kp_neg g]
    have b:=(dv_bd hx).2
    have b0:=(dv_bd hx).1
    have l:(10:Int)^((X d).length+1)≤10^r:=p_le (by omega)
    rw [Int.pow_succ] at l
    have pp:=p_pos (X d).length
    have z:dv []=0:=rfl
    rw [z]
    refine nr_of (N:=dv (X d)) (p_pos r) hD hN ?_ ?_ ?_ <;> (generalize (10:Int)^(X d).length=x1 at *;generalize (10:Int)^r=x2 at *;omega)
theorem dv_W_room {d:Int} (hf:Ie.fnt d=true) {n:Nat} (hn:n≤4200):(W d n).length≤6000:=by
 obtain ⟨r1,r2,r3,r4,r5⟩:=X_room hf
 have:=kp_len_le (xs:=X d) (c:=(X d).length+P d+n) (m:=5000) (by omega) (by omega)
 unfold W
 rw [List.length_append,List.length_replicate]
 omega
end Fx
end Go.Proofs.YtbdhlfklcdegdaaGreatDoor

namespace Go.Proofs.YtbdhlfklcdegdaaGreatDoor
open Go Go.RowKit Go.Deep
namespace Fx
theorem head_of_low {ds:List Int} {n:Nat} (h:Digs ds) (hn:ds.length=n+1) (hl:10^n≤dv ds):ds.getD 0 0≠48:=by
 match ds,hn with
 | x::ys,hn=>
  intro c
  simp at c
  subst c
  have b:=(dv_bd (ds:=ys) (fun d hd=>h d (by simp [hd]))).2
  have e:ys.length=n:=by simpa using hn
  rw [dv_cons,e] at hl
  rw [e] at b
  omega
theorem rd_head {xs:List Int} (h:Nml xs) {k:Nat} (hk0:0<k) (hk:k≤xs.length):(rd xs k).getD 0 0≠48:=by
 obtain ⟨j,rfl⟩:∃j,k=j+1:=⟨k - 1,by omega⟩
 have dk:Digs (xs.take (j+1)):=fun d g=>h.digs d (List.mem_of_mem_take g)
 have lk:(xs.take (j+1)).length=j+1:=by rw [List.length_take];omega
 have low:=head_low dk lk (by have:=h.head;simpa [List.getD] using this)
 have b:=rn_bd h.digs hk
 have v:=rd_dv h.digs hk
 have l:=rd_len xs (j+1)
 have rl:10^j≤rn xs (j+1):=by unfold rn;split <;> omega
 by_cases c:rn xs (j+1)=10^(j+1)
 ·rw [if_pos c] at l
  exact head_of_low (rd_digs _ _) l (by omega)
 ·rw [if_neg c] at l
  exact head_of_low (rd_digs _ _) l (by omega)
theorem W_head {d:Int} (hf:Ie.fnt d=true) (n:Nat) (h:n+1<(W d n).length):(W d n).getD 0 0≠48:=by
 obtain ⟨m0,m1,e0,e1,_⟩:=Ie.fdec d (of_decide_eq_true hf)
 have hl:(W d n).length=(n+1 - (kp (X d) ((X d).length+P d+n)).length)+(kp (X d) ((X d).length+P d+n)).length:=by
  unfold W
  rw [List.length_append,List.length_replicate]
 have hk:n+1<(kp (X d) ((X d).length+P d+n)).length:=by omega
 have e:W d n=kp (X d) ((X d).length+P d+n):=by
  unfold W
  rw [show n+1 - (kp (X d) ((X d).length+P d+n)).length=0 by omega]
  rfl
 rw [e]
 rcases (show Ie.dm d=0∨0<Ie.dm d by omega) with hz | hz
 ·obtain ⟨a,b⟩:=X_zero hf hz
  rw [a,b] at hk
  have e:kp [48] (([48]:List Int).length+0+n)=48::List.replicate n 48:=by
   have:=kp_full (xs:=[48]) (c:=n+1) (by simp)
   rw [show (([48]:List Int).length:Int)+0+n=((n+1:Nat):Int) by simp;omega,this]
   simp
  rw [e] at hk
  simp at hk
 ·have nm:=(X_ex hf).nml hz
  generalize (X d).length+P d+n=c at *
  rcases (show c<0∨0≤c by omega) with g | g
  ·rw [kp_neg g] at hk
   simp at hk
  ·obtain ⟨k,rfl⟩:=Int.eq_ofNat_of_zero_le g
   rcases Nat.lt_or_ge k (X d).length with g | g
   ·rw [kp_cut g] at hk ⊢
    apply rd_head nm _ (by omega)
    rw [rd_len] at hk
    split at hk <;> omega
   ·rw [kp_full g]
    have:=nm.head
    obtain ⟨j,hj⟩:=nm.len
    match hx:X d,hj with
    | x::ys,_=>rw [hx] at this;simpa using this
end Fx
end Go.Proofs.YtbdhlfklcdegdaaGreatDoor

namespace Go.Proofs.YtbdhlfklcdegdaaGreatDoor
open Go Go.RowKit Go.Deep
namespace Fx
theorem rn_carry {xs:List Int} (hd:Digs xs) {k:Nat} (hk:k<xs.length) (h:rn xs (k+1)=10^(k+1)):rn xs k=10^k:=by
 have dk:Digs (xs.take (k+1)):=fun d g=>hd d (List.mem_of_mem_take g)
 have lk:(xs.take (k+1)).length=k+1:=by rw [List.length_take];omega
 have b:=dv_bd dk
 rw [lk] at b
 have T:dv (xs.take (k+1))=10^(k+1) - 1:=by unfold rn at h;split at h <;> omega
 have e1:=take_last lk
 have x1:=digs_getD dk (show k<(xs.take (k+1)).length by omega)
 rw [List.take_take,show min k (k+1)=k by omega] at e1
 generalize hx:(xs.take (k+1)).getD k 0=x at *
 rw [e1,dv_snoc] at T
 have b2:=dv_bd (ds:=xs.take k) (fun d g=>hd d (List.mem_of_mem_take g))
 rw [List.length_take,Nat.min_eq_left (by omega)] at b2
 rw [Int.pow_succ] at T
 have T1:dv (xs.take k)=10^k - 1:=by omega
 have T2:x=57:=by omega
 have e2:xs.drop k=57::xs.drop (k+1):=by
  rw [List.drop_eq_getElem_cons hk]
  congr 1
  rw [Nm.getD_take,if_pos (by omega)] at hx
  rw [←T2,←hx]
  simp [List.getD,hk]
 have u:up xs k=true:=by
  unfold up
  rw [decide_eq_true_iff]
  left
  rw [e2,dv_cons,List.length_drop,show xs.length - k=(xs.length - (k+1))+1 by omega,Int.pow_succ]
  have:=(dv_bd (ds:=xs.drop (k+1)) (fun d g=>hd d (List.mem_of_mem_drop g))).1
  have:=p_pos (xs.length - (k+1))
  omega
 unfold rn
 rw [u,if_pos rfl,T1]
 omega
theorem tx_ten (k:Nat):tx (k+1) (10^k)=49::List.replicate k 48:=by
 have l:(49::List.replicate k (48:Int)).length=k+1:=by simp
 have d:Digs (49::List.replicate k (48:Int)):=by
  intro x h
  rcases List.mem_cons.1 h with rfl | h
  ·omega
  ·have:=List.eq_of_mem_replicate h;omega
 have v:dv (49::List.replicate k (48:Int))=10^k:=by
  rw [dv_cons,dv_zeros,List.length_replicate]
  omega
 have:=eq_tx d
 rw [l,v] at this
 exact this.symm
theorem fig_facts {d:Int} {k:Nat} (hf:Ie.fnt d=true) (hm:0<Ie.dm d) (h1:1≤k) (h2:k≤4200):
  (gS d k).length=k∧Digs (gS d k)∧(gS d k).getD 0 0≠48∧-324≤gK d k∧gK d k≤308∧
  (∀q:Nat,(q:Int)=k - 1 - gK d k→∃z,W d q=List.replicate z 48++gS d k):=by
 have r:rf d k 1=0:=rf_zero.2 ⟨hf,by omega,by omega⟩
 obtain ⟨m0,m1,e0,e1,_⟩:=Ie.fdec d (of_decide_eq_true hf)
 have ex:=X_ex hf
 have nm:=ex.nml hm
 obtain ⟨r1,r2,r3⟩:=ex.room hm m1 e1
 obtain ⟨-,-,p3,p4,p5⟩:=X_room hf
 have rX:(X d).length+P d≤309:=r2
 unfold gS gK
 rw [if_pos r,if_pos r,Int.toNat_natCast]
 rcases Nat.lt_or_ge k (X d).length with g | g
 ·rw [kp_cut g]
  have hl:=rd_len (X d) k
  have hh:=rd_head nm (show 0<k by omega) (show k≤(X d).length by omega)
  have dd:=rd_digs (X d) k
  obtain ⟨j,rfl⟩:∃j,k=j+1:=⟨k - 1,by omega⟩
  by_cases c:rn (X d) (j+1)=10^(j+1)
  ·rw [if_pos c] at hl
   have rdv:rd (X d) (j+1)=49::List.replicate (j+1) 48:=by unfold rd;rw [c,if_pos rfl,tx_ten]
   have lt308:(X d).length+P d≠309:=by
    intro hE
    have b:=r3 hE
    have dk:Digs ((X d).take (j+1)):=fun x g=>nm.digs x (List.mem_of_mem_take g)
    have lk:((X d).take (j+1)).length=j+1:=by rw [List.length_take];omega
    have T:10^(j+1) - 1≤dv ((X d).take (j+1)):=by unfold rn at c;split at c <;> omega
    have e:dv (X d)=dv ((X d).take (j+1))*10^((X d).length - (j+1))+dv ((X d).drop (j+1)):=by
     conv=>lhs;rw [←List.take_append_drop (j+1) (X d),dv_append,List.length_drop]
    have b2:=(dv_bd (ds:=(X d).drop (j+1)) (fun x g=>nm.digs x (List.mem_of_mem_drop g))).1
    have pz:=p_pos ((X d).length - (j+1))
    have f1:(10^(j+1) - 1)*10^((X d).length - (j+1))≤dv ((X d).take (j+1))*10^((X d).length - (j+1)):=Int.mul_le_mul_of_nonneg_right T (Int.le_of_lt pz)
    have f2:(X d).length - 1=j+((X d).length - (j+1)):=by omega
    rw [f2,Int.pow_add] at b
    have f3:((9:Int)*10^j)*10^((X d).length - (j+1))≤(10^(j+1) - 1)*10^((X d).length - (j+1)):=by
     refine Int.mul_le_mul_of_nonneg_right ?_ (Int.le_of_lt pz)
     rw [Int.pow_succ]
     have:=p_pos j
     omega
    have f4:0<10^j*(10:Int)^((X d).length - (j+1)):=Int.mul_pos (p_pos j) pz
    rw [Int.mul_assoc] at f3
    generalize 10^j*(10:Int)^((X d).length - (j+1))=y at *
    omega
   rw [if_pos (by rw [hl];omega),rdv]
   have tk:(49::List.replicate (j+1) (48:Int)).take (j+1)=49::List.replicate j 48:=by
    rw [List.take_succ_cons,List.take_replicate,Nat.min_eq_left (by omega)]
   rw [tk]
   refine ⟨by simp,?_,by simp,by omega,by omega,?_⟩
   ·intro x h
    rcases List.mem_cons.1 h with rfl | h
    ·omega
    ·have:=List.eq_of_mem_replicate h;omega
   ·intro q hq
    refine ⟨q+1 - (j+1),?_⟩
    have cq:((X d).length:Int)+P d+q=(j:Int):=by omega
    unfold W
    rw [cq,kp_cut (by omega)]
    have rj:=rn_carry nm.digs (show j<(X d).length by omega) c
    have rdj:rd (X d) j=49::List.replicate j 48:=by unfold rd;rw [rj,if_pos rfl,tx_ten]
    rw [rdj]
    simp
  ·rw [if_neg c] at hl
   rw [if_neg (by rw [hl];omega),List.take_of_length_le (by omega)]
   refine ⟨hl,dd,hh,by omega,by omega,?_⟩
   intro q hq
   refine ⟨q+1 - (j+1),?_⟩
   have cq:((X d).length:Int)+P d+q=((j+1:Nat):Int):=by omega
   unfold W
   rw [cq,kp_cut g,hl]
 ·rw [kp_full g]
  have hl:(X d++List.replicate (k - (X d).length) 48).length=k:=by rw [List.length_append,List.length_replicate];omega
  rw [if_neg (by rw [hl];omega),List.take_of_length_le (by omega)]
  refine ⟨hl,?_,?_,by omega,by omega,?_⟩
  ·intro x h
   rcases List.mem_append.1 h with h | h
   ·exact nm.digs x h
   ·have:=List.eq_of_mem_replicate h;omega
  ·have:=nm.head
   obtain ⟨j,hj⟩:=nm.len
   match hx:X d,hj with
   | x::ys,_=>rw [hx] at this;simpa using this
  ·intro q hq
   refine ⟨q+1 - k,?_⟩
   have cq:((X d).length:Int)+P d+q=(k:Int):=by omega
   unfold W
   rw [cq,kp_full g,hl]
theorem fig_zero {d:Int} {k:Nat} (hf:Ie.fnt d=true) (hm:Ie.dm d=0) (h1:1≤k) (h2:k≤4200):gS d k=List.replicate k 48∧gK d k=0:=by
 have r:rf d k 1=0:=rf_zero.2 ⟨hf,by omega,by omega⟩
 obtain ⟨a,b⟩:=X_zero hf hm
 have e:kp [48] (k:Int)=List.replicate k 48:=by
  rw [kp_full (by simp;omega)]
  obtain ⟨j,rfl⟩:∃j,k=j+1:=⟨k - 1,by omega⟩
  rw [List.replicate_succ]
  simp
 unfold gS gK
 rw [if_pos r,if_pos r,a,b,e,Int.toNat_natCast]
 simp
end Fx
end Go.Proofs.YtbdhlfklcdegdaaGreatDoor

namespace Go.Proofs.YtbdhlfklcdegdaaGreatDoor
open Go Go.RowKit Go.Deep
namespace Fx
end Fx
end Go.Proofs.YtbdhlfklcdegdaaGreatDoor
