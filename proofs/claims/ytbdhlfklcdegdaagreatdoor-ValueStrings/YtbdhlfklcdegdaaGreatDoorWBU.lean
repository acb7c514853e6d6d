/-
  Texts put together: PoN, PoA, PoB, PoPadN, PoPlN.
-/
import Derived.Test.YtbdhlfklcdegdaaGreatDoorWBQ
import Derived.Test.YtbdhlfklcdegdaaGreatDoorWBL
import Derived.Test.YtbdhlfklcdegdaaGreatDoorWAH
import Derived.Test.YtbdhlfklcdegdaaGreatDoorWAL
import Derived.Laws.Concat
import Derived.Test.YtbdhlfklcdegdaaGreatDoorWAD
namespace Go.Proofs.YtbdhlfklcdegdaaGreatDoor
open Go Go.RowKit Go.Deep
namespace Po
def cap (V:Int):Bool:=decide (V=69∨V=70∨V=71∨V=88)
def okV (V:Int):Bool:=decide (V=101∨V=69∨V=102∨V=70∨V=103∨V=71)
def ng (d:Int):Bool:=decide (9223372036854775808≤d)
def nm (c:Bool) (k:Int):List Int:=if k=3 then (if c=true then [73,78,70] else [105,110,102]) else if k=4 then (if c=true then [78,65,78] else [110,97,110]) else []
def xd (k:Int):List Int:=(if k<0 then 45 else 43)::Wh.fil 2 (Wh.dig 10 false (max k (-k)))
def ex (V k:Int):List Int:=(if cap V=true then 69 else 101)::xd k
def wrt (a b p:List Int) (h:Bool):List Int:=if b=[]∧h=false then a++p else a++46::(b++p)
def sp:List Int→List Int
 | []=>[]
 | x::xs=>if x=48∧sp xs=[] then [] else x::sp xs
def st (h:Bool) (xs:List Int):List Int:=if h=true then xs else sp xs
noncomputable def bdF (h:Bool) (d n:Int):List Int:=wrt (Fx.pA d n) (Fx.pB d n) [] h
noncomputable def bdE (V:Int) (h:Bool) (d n:Int):List Int:=wrt ((Fx.gS d (n+1)).take 1) ((Fx.gS d (n+1)).drop 1) (ex V (Fx.gK d (n+1))) h
noncomputable def bdG (V:Int) (h:Bool) (d n:Int):List Int:=
 if -4≤Fx.gK d n∧Fx.gK d n<n then wrt (Fx.pA d (n - 1 - Fx.gK d n)) (st h (Fx.pB d (n - 1 - Fx.gK d n))) [] h
 else wrt ((Fx.gS d n).take 1) (st h ((Fx.gS d n).drop 1)) (ex V (Fx.gK d n)) h
def pr (P:Int):Int:=if P=-1 then 6 else P
noncomputable def bd (V:Int) (h:Bool) (P d:Int):List Int:=
 if V=102∨V=70 then bdF h d (pr P) else if V=101∨V=69 then bdE V h d (pr P) else bdG V h d (max (pr P) 1)
def spc (V F W P d:Int):List Int:=if Wh.chk F W P=0∧Ie.fnt d=false then Wh.padT F W false (Wh.sgn F (ng d)) (nm (cap V) (Ie.cls d)) else []
def spb (F W P d:Int):Bool:=decide (Wh.chk F W P=0)&&!Ie.fnt d
def renE (V F W P:Int):Int:=if okV V=true then Wh.chk F W P else 140
noncomputable def ren (V F W P d:Int):List Int:=
 if renE V F W P=0 then (if Ie.fnt d=true then Wh.padT F W true (Wh.sgn F (ng d)) (bd V (Wh.bit F 8) P d) else Wh.padT F W false (Wh.sgn F (ng d)) (nm (cap V) (Ie.cls d))) else []
theorem pr_bd {P:Int} (h0:-1≤P) (h1:P≤4096):0≤pr P∧pr P≤4096:=by unfold pr;split <;> omega
theorem sp_of:∀{xs:List Int} {k:Nat},k≤xs.length→(∀i,k≤i→i<xs.length→xs.getD i 0=48)→(0<k→xs.getD (k - 1) 0≠48)→xs.take k=sp xs
 | [],k,_,_,_=>by simp [sp]
 | x::xs,0,_,h2,_=>by
  have e:=sp_of (xs:=xs) (k:=0) (by omega) (fun i h1 hi=>by have:=h2 (i+1) (by omega) (by simp;omega);simpa using this) (fun h=>by omega)
  have e0:x=48:=by simpa using h2 0 (by omega) (by simp)
  rw [List.take_zero] at e
  rw [sp,if_pos ⟨e0,e.symm⟩];rfl
 | x::xs,k+1,h1,h2,h3=>by
  have e:=sp_of (xs:=xs) (k:=k) (by simpa using h1) (fun i h4 hi=>by have:=h2 (i+1) (by omega) (by simp;omega);simpa using this) (fun h=>by
   have:=h3 (by omega)
   obtain ⟨j,rfl⟩:∃j,k=j+1:=⟨k - 1,by omega⟩
   simpa using this)
  rw [List.take_succ_cons,sp]
  rw [if_neg,e]
  rintro ⟨c1,c2⟩
  rw [←e] at c2
  have k0:k=0:=by
   rcases Nat.eq_zero_or_pos k with c | c
   ·exact c
   ·have:(xs.take k).length=0:=by rw [c2];rfl
    rw [List.length_take] at this
    simp at h1
    omega
  subst k0
  have:=h3 (by omega)
  simp at this
  exact this c1
theorem sp_take:∀(xs:List Int),∃k,k≤xs.length∧sp xs=xs.take k∧(∀i,k≤i→i<xs.length→xs.getD i 0=48)∧(0<k→xs.getD (k - 1) 0≠48)
 | []=>⟨0,by simp,by simp [sp],fun i _ h=>by simp at h,fun h=>by omega⟩
 | x::xs=>by
  obtain ⟨k,a,b,c,e⟩:=sp_take xs
  by_cases h:x=48∧sp xs=[]
  ·refine ⟨0,by omega,by rw [sp,if_pos h];rfl,fun i _ hi=>?_,fun h=>by omega⟩
   have k0:k=0:=by
    rcases Nat.eq_zero_or_pos k with q | q
    ·exact q
    ·have:(xs.take k).length=0:=by rw [←b,h.2];rfl
     rw [List.length_take] at this
     omega
   cases i with
   | zero=>simpa using h.1
   | succ i=>have:=c i (by omega) (by simpa using hi);simpa using this
  ·refine ⟨k+1,by simp;omega,by rw [sp,if_neg h,b,List.take_succ_cons],fun i h1 hi=>?_,fun _=>?_⟩
   ·cases i with
    | zero=>omega
    | succ i=>have:=c i (by omega) (by simpa using hi);simpa using this
   ·cases k with
    | zero=>
     rw [List.take_zero] at b
     simp
     intro q
     exact h ⟨q,b⟩
    | succ k=>have:=e (by omega);simpa using this
theorem sp_len (xs:List Int):(sp xs).length≤xs.length:=by
 obtain ⟨k,a,b,_⟩:=sp_take xs
 rw [b,List.length_take];omega
theorem sp_mem {xs:List Int} {x:Int} (h:x∈sp xs):x∈xs:=by
 obtain ⟨k,a,b,_⟩:=sp_take xs
 rw [b] at h
 exact List.mem_of_mem_take h
theorem st_len (h:Bool) (xs:List Int):(st h xs).length≤xs.length:=by unfold st;split;exact Nat.le_refl _;exact sp_len xs
theorem st_mem {h:Bool} {xs:List Int} {x:Int} (k:x∈st h xs):x∈xs:=by
 unfold st at k;split at k
 ·exact k
 ·exact sp_mem k
theorem digs_by {xs:List Int} (h:Digs xs):Wh.By xs:=fun x hx=>by have:=h x hx;omega
theorem digs_take {xs:List Int} (h:Digs xs) (k:Nat):Digs (xs.take k):=fun x hx=>h x (List.mem_of_mem_take hx)
theorem digs_drop {xs:List Int} (h:Digs xs) (k:Nat):Digs (xs.drop k):=fun x hx=>h x (List.mem_of_mem_drop hx)
theorem digs_st {xs:List Int} (b:Bool) (h:Digs xs):Digs (st b xs):=fun x hx=>h x (st_mem hx)
structure PlF (d n:Int):Prop where
 ok:Fx.rf d n 0=0
 a:Digs (Fx.pA d n)
 b:Digs (Fx.pB d n)
 ane:Fx.pA d n≠[]
 la:(Fx.pA d n).length≤6000
 lb:((Fx.pB d n).length:Int)=n
theorem plF {d n:Int} (hf:Ie.fnt d=true) (h0:0≤n) (h1:n≤4200):PlF d n:=by
 have r:Fx.rf d n 0=0:=Fx.rf_zero.2 ⟨hf,h0,h1⟩
 have wl:=Fx.W_len d n.toNat
 have wd:=Fx.W_digs hf n.toNat
 have wr:=Fx.dv_W_room hf (n:=n.toNat) (by omega)
 refine ⟨r,?_,?_,?_,?_,?_⟩
 ·rw [Fx.pA,if_pos r];exact digs_take wd _
 ·rw [Fx.pB,if_pos r];exact digs_drop wd _
 ·rw [Fx.pA,if_pos r]
  intro c
  have:((Fx.W d n.toNat).take ((Fx.W d n.toNat).length - n.toNat)).length=0:=by rw [c];rfl
  rw [List.length_take] at this
  omega
 ·rw [Fx.pA,if_pos r,List.length_take];omega
 ·rw [Fx.pB,if_pos r,List.length_drop];omega
structure FgF (d n:Int):Prop where
 ok:Fx.rf d n 1=0
 s:Digs (Fx.gS d n)
 len:((Fx.gS d n).length:Int)=n
 lo:-324≤Fx.gK d n
 hi:Fx.gK d n≤308
theorem fgF {d n:Int} (hf:Ie.fnt d=true) (h0:1≤n) (h1:n≤4200):FgF d n:=by
 obtain ⟨k,rfl⟩:=Int.eq_ofNat_of_zero_le (show 0≤n by omega)
 have r:Fx.rf d k 1=0:=Fx.rf_zero.2 ⟨hf,h0,h1⟩
 rcases (show Ie.dm d=0∨0<Ie.dm d by have:=(Ie.fdec d (of_decide_eq_true hf)).1;omega) with c | c
 ·obtain ⟨a,b⟩:=Fx.fig_zero hf c (k:=k) (by omega) (by omega)
  refine ⟨r,?_,by rw [a];simp,by omega,by omega⟩
  rw [a]
  intro x hx
  have:=List.eq_of_mem_replicate hx
  omega
 ·obtain ⟨a,b,_,e,f,_⟩:=Fx.fig_facts hf c (k:=k) (by omega) (by omega)
  exact ⟨r,b,by rw [a],e,f⟩
theorem dig3 {v:Int} (h0:0<v) (h1:v<1000):Wh.dig 10 false v=lets (lettersOf false) (Dn.strip (Dn.dg 10 3 v)):=by
 have hz:Nm.Limbs [v]:=by intro x hx;simp at hx;omega
 have hv:Nm.val [v]=v:=by simp [Nm.val]
 have ts:Nm.tsize [v]≤1:=by have:=Nm.tsize_le [v];simpa using this
 have tp:0<Nm.tsize [v]:=by have:=Nm.tsize_zero_iff hz;omega
 have q:=Wh.dig_is (up:=false) (B:=10) hz (by rw [hv];exact h0) (by omega) (by omega) (by omega) (InIs.ok (up:=false) 3 tp (by omega) (by omega) (by omega) (by rw [hv];exact h1))
 rw [hv] at q
 exact q.1.symm
set_option maxRecDepth 100000 in
theorem xdig {v:Int} (h0:0≤v) (h1:v≤400):Wh.fil 2 (Wh.dig 10 false v)=Fx.tx (if v<100 then 2 else 3) v:=by
 rcases (show v=0∨0<v by omega) with c | c
 ·subst c;decide
 ·rw [dig3 c (by omega)]
  have key:∀t:Fin 401,0<t.val→Wh.fil 2 (lets (lettersOf false) (Dn.strip (Dn.dg 10 3 (t.val:Int))))=Fx.tx (if (t.val:Int)<100 then 2 else 3) (t.val:Int):=by decide +kernel
  have:=key ⟨v.toNat,by omega⟩ (by simp;omega)
  simp only at this
  rw [show ((v.toNat:Nat):Int)=v by omega] at this
  exact this
theorem xd_is {k:Int} (h0:-400≤k) (h1:k≤400):xd k=(if k<0 then 45 else 43)::Fx.tx (if max k (-k)<100 then 2 else 3) (max k (-k)):=by
 rw [xd,xdig (by omega) (by omega)]
theorem xd_len {k:Int} (h0:-400≤k) (h1:k≤400):(xd k).length≤4:=by
 rw [xd_is h0 h1,List.length_cons,Fx.tx_len];split <;> omega
theorem xd_by (k:Int):Wh.By (xd k):=by
 unfold xd
 exact Wh.By.cons (by split <;> omega) (Wh.fil_by (Wh.dig_by _ _ _))
theorem ex_by (V k:Int):Wh.By (ex V k):=by
 unfold ex
 exact Wh.By.cons (by split <;> omega) (xd_by k)
theorem ex_len {V k:Int} (h0:-400≤k) (h1:k≤400):(ex V k).length≤5:=by
 rw [ex,List.length_cons];have:=xd_len h0 h1;omega
theorem wrt_by {a b p:List Int} {h:Bool} (ha:Wh.By a) (hb:Wh.By b) (hp:Wh.By p):Wh.By (wrt a b p h):=by
 unfold wrt
 split
 ·exact ha.app hp
 ·exact ha.app (Wh.By.cons (by omega) (hb.app hp))
theorem wrt_len (a b p:List Int) (h:Bool):(wrt a b p h).length≤a.length+b.length+p.length+1:=by
 unfold wrt
 split <;> simp <;> omega
theorem bd_ok {V P d:Int} (h:Bool) (hf:Ie.fnt d=true) (p0:-1≤P) (p1:P≤4096):Wh.By (bd V h P d)∧(bd V h P d).length≤20000:=by
 obtain ⟨q0,q1⟩:=pr_bd p0 p1
 unfold bd
 split
 ·have k:=plF hf q0 (by omega)
  refine ⟨wrt_by (digs_by k.a) (digs_by k.b) Wh.By.nil,?_⟩
  have:=wrt_len (Fx.pA d (pr P)) (Fx.pB d (pr P)) [] h
  have:=k.la
  have:=k.lb
  simp only [List.length_nil,bdF] at *
  omega
 ·split
  ·have k:=fgF hf (n:=pr P+1) (by omega) (by omega)
   refine ⟨wrt_by (digs_by (digs_take k.s _)) (digs_by (digs_drop k.s _)) (ex_by _ _),?_⟩
   have:=wrt_len ((Fx.gS d (pr P+1)).take 1) ((Fx.gS d (pr P+1)).drop 1) (ex V (Fx.gK d (pr P+1))) h
   have:=k.len
   have:=ex_len (V:=V) (k:=Fx.gK d (pr P+1)) (by have:=k.lo;omega) (by have:=k.hi;omega)
   simp only [bdE,List.length_take,List.length_drop] at *
   omega
  ·have k:=fgF hf (n:=max (pr P) 1) (by omega) (by omega)
   unfold bdG
   split
   ·rename_i g
    have j:=plF hf (n:=max (pr P) 1 - 1 - Fx.gK d (max (pr P) 1)) (by omega) (by omega)
    refine ⟨wrt_by (digs_by j.a) (digs_by (digs_st h j.b)) Wh.By.nil,?_⟩
    have:=wrt_len (Fx.pA d (max (pr P) 1 - 1 - Fx.gK d (max (pr P) 1))) (st h (Fx.pB d (max (pr P) 1 - 1 - Fx.gK d (max (pr P) 1)))) [] h
    have:=j.la
    have:=j.lb
    have:=st_len h (Fx.pB d (max (pr P) 1 - 1 - Fx.gK d (max (pr P) 1)))
    simp only [List.length_nil] at *
    omega
   ·refine ⟨wrt_by (digs_by (digs_take k.s _)) (digs_by (digs_st h (digs_drop k.s _))) (ex_by _ _),?_⟩
    have:=wrt_len ((Fx.gS d (max (pr P) 1)).take 1) (st h ((Fx.gS d (max (pr P) 1)).drop 1)) (ex V (Fx.gK d (max (pr P) 1))) h
    have:=st_len h ((Fx.gS d (max (pr P) 1)).drop 1)
    have:=k.len
    have:=ex_len (V:=V) (k:=Fx.gK d (max (pr P) 1)) (by have:=k.lo;omega) (by have:=k.hi;omega)
    simp only [List.length_take,List.length_drop] at *
    omega
theorem nm_by (c:Bool) (k:Int):Wh.By (nm c k):=by
 unfold nm
 cases c <;> (split <;> first | (intro x hx;simp at hx;omega) | (split <;> first | (intro x hx;simp at hx;omega) | exact Wh.By.nil))
theorem nm_len (c:Bool) (k:Int):(nm c k).length≤3:=by
 unfold nm
 split
 ·split <;> simp
 ·split
  ·split <;> simp
  ·simp
end Po
end Go.Proofs.YtbdhlfklcdegdaaGreatDoor

namespace Go.Proofs.YtbdhlfklcdegdaaGreatDoor
open Go Go.RowKit Go.Deep Go.Shelf
def Po.hb (F k:Int):Bool:=bits .and .i64 F k != 0
theorem Po.hb_is {F k:Int} (h0:0≤F) (h1:F≤31) (hk:k=1∨k=2∨k=4∨k=8∨k=16):Po.hb F k=Wh.bit F k:=by
 unfold Po.hb
 rcases bit_and F k h0 h1 hk with ⟨e,q⟩ | ⟨e,q⟩
 ·rw [e,q];rfl
 ·rw [q];simpa using e
def Po.sx (F:Int) (n:Bool):List Int:=if n=true then [45] else if Po.hb F 2=true then [43] else if Po.hb F 4=true then [32] else []
theorem Po.sx_is {F:Int} (n:Bool) (h0:0≤F) (h1:F≤31):Po.sx F n=Wh.sgn F n:=by
 unfold Po.sx Wh.sgn
 rw [Po.hb_is h0 h1 (by omega),Po.hb_is h0 h1 (by omega)]
theorem Po.sx_by (F:Int) (n:Bool):Wh.By (Po.sx F n)∧(Po.sx F n).length≤1:=by
 unfold Po.sx
 split
 ·exact ⟨fun x hx=>by simp at hx;omega,by simp⟩
 ·split
  ·exact ⟨fun x hx=>by simp at hx;omega,by simp⟩
  ·split
   ·exact ⟨fun x hx=>by simp at hx;omega,by simp⟩
   ·exact ⟨Wh.By.nil,by simp⟩
set_option maxRecDepth 100000 in
theorem phas_any (V F W P k:Int) (w:World):
  Calls Tryz.prog 113 #[.agg #[.int .u8 V,.int .i64 F,.int .i64 W,.int .i64 P],.int .i64 k] w fun e w'=>e=.returned (.bool (Po.hb F k))∧Below w.heap.size w w':=by
 have B:=hid (alloc_b w (.cells #[.int .u8 V,.int .i64 F,.int .i64 W,.int .i64 P] 58))
 go_enter Tryz.func113,Tryz.ntmps113
 go_wp2_with fail
 go_ret
 exact ⟨rfl,B.out⟩
set_option maxRecDepth 100000 in
theorem cap_ix (V:Int) (h0:0≤V) (h1:V<256):decide (0≤Lib.indexByte (⟨#[69,70,71,88]⟩:ByteArray).data.toList V.toNat.toUInt8)=Po.cap V:=by
 have key:∀t:Fin 256,decide (0≤Lib.indexByte [69,70,71,88] (t.val:Int).toNat.toUInt8)=Po.cap (t.val:Int):=by decide
 have:=key ⟨V.toNat,by omega⟩
 simp only at this
 rw [show ((V.toNat:Nat):Int)=V by omega] at this
 exact this
set_option maxRecDepth 100000 in
theorem ok_ix (V:Int) (h0:0≤V) (h1:V<256):decide (Lib.indexByte (⟨#[101,69,102,70,103,71]⟩:ByteArray).data.toList V.toNat.toUInt8<0)=!Po.okV V:=by
 have key:∀t:Fin 256,decide (Lib.indexByte [101,69,102,70,103,71] (t.val:Int).toNat.toUInt8<0)=!Po.okV (t.val:Int):=by decide
 have:=key ⟨V.toNat,by omega⟩
 simp only at this
 rw [show ((V.toNat:Nat):Int)=V by omega] at this
 exact this
set_option maxRecDepth 100000 in
theorem pcap_any (V:Int) (w:World) (h0:0≤V) (h1:V<256):
  Calls Tryz.prog 165 #[.int .u8 V] w fun e w'=>e=.returned (.bool (Po.cap V))∧w'=w:=by
 have IX:=hid (fun w=>Any.strings_IndexByte idxLays ⟨#[69,70,71,88]⟩ V w)
 have E:=hid (cap_ix V h0 h1)
 generalize Lib.indexByte (⟨#[69,70,71,88]⟩:ByteArray).data.toList V.toNat.toUInt8=x at *
 clear h0 h1
 go_enter Tryz.func165,Tryz.ntmps165
 go_wp2_with (go_at_call 69;refine (IX.out _).mono ?_;rintro e w2 ⟨rfl,rfl⟩)
 go_ret
 exact ⟨fretB E.out,rfl⟩
set_option maxRecDepth 100000 in
theorem pfin_any (d:Int) (w:World) (h0:0≤d) (h1:d<18446744073709551616):
  Calls Tryz.prog 108 #[.int .u64 d] w fun e w'=>e=.returned (.bool (Ie.fnt d))∧w'=w:=by
 have C:=hid (class_any d w h0 h1)
 have E:Hid (Ie.fnt d=decide (Ie.cls d<3)):=rfl
 generalize Ie.cls d=c at *
 go_enter Tryz.func108,Tryz.ntmps108
 go_wp2_with fail
 refine C.out.mono ?_
 rintro e w' ⟨rfl,rfl⟩
 go_wp2_with fail
 go_ret
 exact ⟨fretB E.out.symm,rfl⟩
set_option maxRecDepth 100000 in
theorem psign_any (V F W P d:Int) (w:World) (h0:0≤d) (h1:d<18446744073709551616):
  Calls Tryz.prog 74 #[.agg #[.int .u8 V,.int .i64 F,.int .i64 W,.int .i64 P],.int .u64 d] w fun e w'=>e=.returned (.string (strOfNums (Po.sx F (Po.ng d))))∧Below w.heap.size w w':=by
 have B:=hid (SB.new w V F W P)
 have DC:=hid (fun wx=>decode_any d wx h0 h1)
 have H2:=hid (fun W'=>phas_any V F W P 2 W')
 have H4:=hid (fun W'=>phas_any V F W P 4 W')
 unfold partsOf at DC
 have E:Hid (Po.sx F (Po.ng d)=if Po.ng d=true then [45] else if Po.hb F 2=true then [43] else if Po.hb F 4=true then [32] else []):=rfl
 rw [←Po.ng] at DC
 generalize Po.ng d=n at *
 generalize Po.hb F 2=b2 at *
 generalize Po.hb F 4=b4 at *
 generalize Po.sx F n=R at *
 generalize Ie.cls d=c at *
 generalize Ie.dm d=m at *
 generalize Ie.de d=ee at *
 have FD:∀wx:World,(Instr.field 92 (.agg #[.bool n,.int .i64 c,.int .u64 m,.int .i64 ee]) 0).run Tryz.prog wx=.ok (.bool n) wx:=fun _=>by kernel_rfl
 clear h0 h1
 cases n with
 | true=>
  have E2:Hid (strOfNums [45]=strOfNums R):=by rw [Hid,E.out];rfl
  clear E
  go_enter Tryz.func74,Tryz.ntmps74
  go_wp2_with fail
  refine (DC.out _).mono ?_
  rintro e w1 ⟨rfl,b1⟩
  have B1:=hid (B.out.on b1)
  clear b1 B
  go_wp2_with fail
  go_ret
  exact ⟨ret_str E2.out,B1.out.bel⟩
 | false=>
  cases b2 with
  | true=>
   have E2:Hid (strOfNums [43]=strOfNums R):=by rw [Hid,E.out];rfl
   clear E
   go_enter Tryz.func74,Tryz.ntmps74
   go_wp2_with fail
   refine (DC.out _).mono ?_
   rintro e w1 ⟨rfl,b1⟩
   have B1:=hid (B.out.on b1)
   clear b1 B
   obtain ⟨c0,c1,c2,c3⟩:=B1.out.flat
   go_wp2_with fail
   refine (H2.out _).mono ?_
   rintro e w2 ⟨rfl,b2⟩
   have B2:=hid (B1.out.on b2)
   clear b2 B1 c0 c1 c2 c3
   go_wp2_with fail
   go_ret
   exact ⟨ret_str E2.out,B2.out.bel⟩
  | false=>
   have E2:Hid ((b4=true→strOfNums [32]=strOfNums R)∧(b4=false→strOfNums []=strOfNums R)):=by
    constructor
    ·rintro rfl;rw [E.out];rfl
    ·rintro rfl;rw [E.out];rfl
   clear E
   go_enter Tryz.func74,Tryz.ntmps74
   go_wp2_with fail
   refine (DC.out _).mono ?_
   rintro e w1 ⟨rfl,b1⟩
   have B1:=hid (B.out.on b1)
   clear b1 B
   obtain ⟨c0,c1,c2,c3⟩:=B1.out.flat
   go_wp2_with fail
   refine (H2.out _).mono ?_
   rintro e w2 ⟨rfl,b2⟩
   have B2:=hid (B1.out.on b2)
   clear b2 B1 c0 c1 c2 c3
   obtain ⟨c0,c1,c2,c3⟩:=B2.out.flat
   go_wp2_with fail
   refine (H4.out _).mono ?_
   rintro e w3 ⟨rfl,b3⟩
   have B3:=hid (B2.out.on b3)
   clear b3 B2 c0 c1 c2 c3
   cases b4 with
   | true=>
    have E3:=hid (E2.out.1 rfl)
    clear E2
    go_wp2_with fail
    go_ret
    exact ⟨ret_str E3.out,B3.out.bel⟩
   | false=>
    have E3:=hid (E2.out.2 rfl)
    clear E2
    go_wp2_with fail
    go_ret
    exact ⟨ret_str E3.out,B3.out.bel⟩
theorem pup_any (xs ys:List Int) (w:World) (h:(xs,ys)=([],[])∨(xs,ys)=([105,110,102],[73,78,70])∨(xs,ys)=([110,97,110],[78,65,78])):
  Calls Tryz.prog 166 #[.string (strOfNums xs)] w fun e w'=>e=.returned (.string (strOfNums ys))∧Below w.heap.size w w':=by
 have ha:∀(j:Nat) (b:UInt8),(strOfNums xs).data.toList[j]?=some b→b.toNat<128:=by
  intro j b hb
  have hm:=List.mem_of_getElem? hb
  rcases h with h | h | h
  ·obtain ⟨rfl,rfl⟩:=Prod.mk.inj h
   simp [strOfNums] at hm
  ·obtain ⟨rfl,rfl⟩:=Prod.mk.inj h
   simp [strOfNums] at hm
   rcases hm with rfl | rfl | rfl <;> decide
  ·obtain ⟨rfl,rfl⟩:=Prod.mk.inj h
   simp [strOfNums] at hm
   rcases hm with rfl | rfl | rfl <;> decide
 refine (Any.strings_ToUpper_ascii upLays jExtra (strOfNums xs) w (by rw [strOfNums_size];rcases h with h | h | h <;> (obtain ⟨rfl,rfl⟩:=Prod.mk.inj h;simp)) ha).mono ?_
 rintro e w' ⟨rfl,k⟩
 refine ⟨ret_str ?_,k⟩
 rcases h with h | h | h <;> (obtain ⟨rfl,rfl⟩:=Prod.mk.inj h;decide)
set_option maxRecDepth 100000 in
theorem pname_any (V d:Int) (w:World) (v0:0≤V) (v1:V<256) (h0:0≤d) (h1:d<18446744073709551616):
  Calls Tryz.prog 107 #[.int .u8 V,.int .u64 d] w fun e w'=>e=.returned (.string (strOfNums (Po.nm (Po.cap V) (Ie.cls d))))∧Below w.heap.size w w':=by
 have C:=hid (fun wx=>class_any d wx h0 h1)
 have CP:=hid (fun wx=>pcap_any V wx v0 v1)
 have U0:Hid (∀wx,Calls Tryz.prog 166 #[.string ⟨#[]⟩] wx fun e w'=>e=.returned (.string (strOfNums []))∧Below wx.heap.size wx w'):=fun wx=>pup_any [] [] wx (.inl rfl)
 have U1:Hid (∀wx,Calls Tryz.prog 166 #[.string ⟨#[105,110,102]⟩] wx fun e w'=>e=.returned (.string (strOfNums [73,78,70]))∧Below wx.heap.size wx w'):=fun wx=>pup_any [105,110,102] [73,78,70] wx (.inr (.inl rfl))
 have U2:Hid (∀wx,Calls Tryz.prog 166 #[.string ⟨#[110,97,110]⟩] wx fun e w'=>e=.returned (.string (strOfNums [78,65,78]))∧Below wx.heap.size wx w'):=fun wx=>pup_any [110,97,110] [78,65,78] wx (.inr (.inr rfl))
 have E:∀(b:Bool) (k:Int),Hid (Po.nm b k=if k=3 then (if b=true then [73,78,70] else [105,110,102]) else if k=4 then (if b=true then [78,65,78] else [110,97,110]) else []):=fun _ _=>rfl
 have E:=E (Po.cap V) (Ie.cls d)
 generalize Ie.cls d=c at *
 generalize Po.cap V=b at *
 generalize Po.nm b c=R at *
 clear h0 h1 v0 v1
 by_cases c3:c=3
 ·subst c3
  cases b with
  | true=>
   have E2:Hid (strOfNums [73,78,70]=strOfNums R):=by rw [Hid,E.out];rfl
   clear E
   go_enter Tryz.func107,Tryz.ntmps107
   go_wp2_with (first | (go_at_call 94;refine (C.out _).mono ?_;rintro e w' ⟨rfl,hw⟩;rw [hw];clear hw w') | (go_at_call 165;refine (CP.out _).mono ?_;rintro e w' ⟨rfl,hw⟩;rw [hw];clear hw w'))
   refine (U1.out _).mono ?_
   rintro e w1 ⟨rfl,b1⟩
   have B1:=hid b1
   clear b1
   go_wp2_with fail
   go_ret
   exact ⟨ret_str E2.out,B1.out⟩
  | false=>
   have E2:Hid (strOfNums [105,110,102]=strOfNums R):=by rw [Hid,E.out];rfl
   clear E
   go_enter Tryz.func107,Tryz.ntmps107
   go_wp2_with (first | (go_at_call 94;refine (C.out _).mono ?_;rintro e w' ⟨rfl,hw⟩;rw [hw];clear hw w') | (go_at_call 165;refine (CP.out _).mono ?_;rintro e w' ⟨rfl,hw⟩;rw [hw];clear hw w'))
   go_ret
   exact ⟨ret_str E2.out,Below.refl _ _⟩
 ·by_cases c4:c=4
  ·subst c4
   cases b with
   | true=>
    have E2:Hid (strOfNums [78,65,78]=strOfNums R):=by rw [Hid,E.out];rfl
    clear E
    go_enter Tryz.func107,Tryz.ntmps107
    go_wp2_with (first | (go_at_call 94;refine (C.out _).mono ?_;rintro e w' ⟨rfl,hw⟩;rw [hw];clear hw w') | (go_at_call 165;refine (CP.out _).mono ?_;rintro e w' ⟨rfl,hw⟩;rw [hw];clear hw w'))
    refine (U2.out _).mono ?_
    rintro e w1 ⟨rfl,b1⟩
    have B1:=hid b1
    clear b1
    go_wp2_with fail
    go_ret
    exact ⟨ret_str E2.out,B1.out⟩
   | false=>
    have E2:Hid (strOfNums [110,97,110]=strOfNums R):=by rw [Hid,E.out];rfl
    clear E
    go_enter Tryz.func107,Tryz.ntmps107
    go_wp2_with (first | (go_at_call 94;refine (C.out _).mono ?_;rintro e w' ⟨rfl,hw⟩;rw [hw];clear hw w') | (go_at_call 165;refine (CP.out _).mono ?_;rintro e w' ⟨rfl,hw⟩;rw [hw];clear hw w'))
    go_ret
    exact ⟨ret_str E2.out,Below.refl _ _⟩
  ·have k3:(c == 3)=false:=by simpa using c3
   have k4:(c == 4)=false:=by simpa using c4
   have E2:Hid (strOfNums []=strOfNums R):=by rw [Hid,E.out,if_neg c3,if_neg c4]
   clear E c3 c4
   cases b with
   | true=>
    go_enter Tryz.func107,Tryz.ntmps107
    go_wp2_with (first | (go_at_call 94;refine (C.out _).mono ?_;rintro e w' ⟨rfl,hw⟩;rw [hw];clear hw w') | (go_at_call 165;refine (CP.out _).mono ?_;rintro e w' ⟨rfl,hw⟩;rw [hw];clear hw w'))
    refine (U0.out _).mono ?_
    rintro e w1 ⟨rfl,b1⟩
    have B1:=hid b1
    clear b1
    go_wp2_with fail
    go_ret
    exact ⟨ret_str E2.out,B1.out⟩
   | false=>
    go_enter Tryz.func107,Tryz.ntmps107
    go_wp2_with (first | (go_at_call 94;refine (C.out _).mono ?_;rintro e w' ⟨rfl,hw⟩;rw [hw];clear hw w') | (go_at_call 165;refine (CP.out _).mono ?_;rintro e w' ⟨rfl,hw⟩;rw [hw];clear hw w'))
    go_ret
    exact ⟨ret_str E2.out,Below.refl _ _⟩
end Go.Proofs.YtbdhlfklcdegdaaGreatDoor

namespace Go.Proofs.YtbdhlfklcdegdaaGreatDoor
open Go Go.RowKit Go.Deep Go.Shelf
def N3 (w:World) (b:Nat) (v0 v1 v2:Value):Prop:=w.heap[b]?=some (.cells #[v0,v1,v2] 161 (0,0))
theorem N3.new (w:World) (v0 v1 v2:Value):N3 (w.alloc (.cells #[v0,v1,v2] 161)) w.heap.size v0 v1 v2:=heap_alloc_new w _
theorem N3.lt {w:World} {b:Nat} {v0 v1 v2:Value} (h:N3 w b v0 v1 v2):b<w.heap.size:=by
 rcases Nat.lt_or_ge b w.heap.size with hl | hl
 ·exact hl
 ·simp [N3,Array.getElem?_eq_none hl] at h
theorem N3.below {w w':World} {b:Nat} {v0 v1 v2:Value} (h:N3 w b v0 v1 v2) (hB:Below w.heap.size w w'):N3 w' b v0 v1 v2:=by
 rw [N3,hB.block b h.lt];exact h
theorem N3.cells {w:World} {b:Nat} {v0 v1 v2:Value} (h:N3 w b v0 v1 v2):
  (w.cell? ⟨b,0,none⟩=some v0∧w.cell? ⟨b,1,none⟩=some v1∧w.cell? ⟨b,2,none⟩=some v2)∧
  (w.frozen? ⟨b,0,none⟩=false∧w.frozen? ⟨b,1,none⟩=false∧w.frozen? ⟨b,2,none⟩=false):=by
 simp only [N3] at h
 refine ⟨⟨?_,?_,?_⟩,⟨?_,?_,?_⟩⟩ <;> simp [World.cell?,World.frozen?,h]
theorem N3.put {w:World} {b:Nat} {v0 v1 v2:Value} (h:N3 w b v0 v1 v2) (u0 u1 u2:Value):
  N3 (((w.setCell ⟨b,0,none⟩ u0).setCell ⟨b,1,none⟩ u1).setCell ⟨b,2,none⟩ u2) b u0 u1 u2:=by
 have h0:=fset1 (o:=0) (v:=u0) (c':=#[u0,v1,v2]) h (by simp [Array.setIfInBounds])
 have h1:=fset1 (o:=1) (v:=u1) (c':=#[u0,u1,v2]) h0 (by simp [Array.setIfInBounds])
 exact fset1 (o:=2) (v:=u2) (c':=#[u0,u1,u2]) h1 (by simp [Array.setIfInBounds])
theorem N3.put1 {w:World} {b:Nat} {v0 v1 v2:Value} (h:N3 w b v0 v1 v2) (u1:Value):
  N3 (w.setCell ⟨b,1,none⟩ u1) b v0 u1 v2:=fset1 (o:=1) (v:=u1) (c':=#[v0,u1,v2]) h (by simp [Array.setIfInBounds])
structure NB (w0:World) (b:Nat) (x y z:List Int) (wk:World):Prop where
 bel:Below w0.heap.size w0 wk
 box:N3 wk b (.string (strOfNums x)) (.string (strOfNums y)) (.string (strOfNums z))
 lo:w0.heap.size≤b
theorem NB.on {w0 wk w':World} {b:Nat} {x y z:List Int} (h:NB w0 b x y z wk) (k:Below wk.heap.size wk w'):NB w0 b x y z w':=⟨below_on h.bel k,h.box.below k,h.lo⟩
theorem NB.drew {w0 wk:World} {b:Nat} {x y z:List Int} (h:NB w0 b x y z wk):NB w0 b x y z wk.drew:=⟨h.bel.drew,h.box,h.lo⟩
theorem NB.put {w0 wk:World} {b:Nat} {x y z:List Int} (h:NB w0 b x y z wk) (x' y' z':List Int):
  NB w0 b x' y' z' (((wk.setCell ⟨b,0,none⟩ (.string (strOfNums x'))).setCell ⟨b,1,none⟩ (.string (strOfNums y'))).setCell ⟨b,2,none⟩ (.string (strOfNums z'))):=
 ⟨fset3_below h.bel h.lo,h.box.put _ _ _,h.lo⟩
theorem NB.put1 {w0 wk:World} {b:Nat} {x y z:List Int} (h:NB w0 b x y z wk) (y':List Int):
  NB w0 b x y' z (wk.setCell ⟨b,1,none⟩ (.string (strOfNums y'))):=
 ⟨h.bel.setCell (p:=⟨b,1,none⟩) h.lo _,h.box.put1 _,h.lo⟩
theorem NB.new (w:World):NB w w.heap.size [] [] [] (w.alloc (.cells #[.string ⟨#[]⟩,.string ⟨#[]⟩,.string ⟨#[]⟩] 161)):=⟨alloc_b w _,N3.new w _ _ _,Nat.le_refl _⟩
theorem plx_any (d n:Int) (w:World) (hT:Tab w) (h0:0≤d) (h1:d<18446744073709551616):
  Calls Tryz.prog 171 #[.int .u64 d,.int .i64 n] w fun e w'=>e=.returned (.tuple #[.string (strOfNums (Fx.pA d n)),.string (strOfNums (Fx.pB d n)),.int .i64 (Fx.rf d n 0)])∧Below w.heap.size w w':=by
 refine (places_any d n w hT h0 h1).mono ?_
 rintro e w' ⟨s,t,rfl,hs,ht,hB⟩
 rw [str_is hs,str_is ht]
 exact ⟨rfl,hB⟩
theorem fgx_any (d n:Int) (w:World) (hT:Tab w) (h0:0≤d) (h1:d<18446744073709551616):
  Calls Tryz.prog 172 #[.int .u64 d,.int .i64 n] w fun e w'=>e=.returned (.tuple #[.string (strOfNums (Fx.gS d n)),.int .i64 (Fx.gK d n),.int .i64 (Fx.rf d n 1)])∧Below w.heap.size w w':=by
 refine (figures_any d n w hT h0 h1).mono ?_
 rintro e w' ⟨s,rfl,hs,hB⟩
 rw [str_is hs]
 exact ⟨rfl,hB⟩
def NumV (x y z:List Int):Value:=.agg #[.string (strOfNums x),.string (strOfNums y),.string (strOfNums z)]
set_option maxRecDepth 100000 in
set_option maxHeartbeats 2000000 in
theorem pexp_any (V k:Int) (w:World) (v0:0≤V) (v1:V<256) (k0:-400≤k) (k1:k≤400):
  Calls Tryz.prog 173 #[.int .u8 V,.int .i64 k] w fun e w'=>e=.returned (.string (strOfNums (Po.ex V k)))∧Below w.heap.size w w':=by
 have CP:=hid (fun wx=>pcap_any V wx v0 v1)
 obtain ⟨m,hm⟩:∃m,max k (-k)=m:=⟨_,rfl⟩
 have m0:0≤m:=by omega
 have m1:m≤400:=by omega
 have SG:Hid (∀W':World,Calls Tryz.prog 217 #[.agg #[.int .u8 100,.int .i64 2,.int .i64 0,.int .i64 2],.bool (decide (k<0)),.slice (some ⟨W'.heap.size,0,none⟩) 1 1] (W'.alloc (.cells #[.int .u64 m] 24)) fun e w'=>e=.returned (.tuple #[.string (strOfNums (Po.xd k)),.int .i64 0])∧Below W'.heap.size W' w'):=by
  intro W'
  have hA:Arg (W'.alloc (.cells #[.int .u64 m] 24)) (some ⟨W'.heap.size,0,none⟩) 1 1 [m]:=by
   have o:Own (W'.alloc (.cells #[.int .u64 m] 24)) W'.heap.size [m]:=heap_alloc_new W' _
   exact ⟨rfl,by omega,by omega,o.lies,limb_one ⟨m0,by omega⟩⟩
  refine (wsigned_any 100 2 0 2 (decide (k<0)) _ 1 1 [m] _ (by omega) (by omega) hA).mono ?_
  rintro e w' ⟨rfl,b⟩
  have hv:Nm.val [m]=m:=by simp [Nm.val]
  have ts:Nm.tsize [m]≤1:=by have:=Nm.tsize_le [m];simpa using this
  have hE:Wh.sigE 100 2 0 2 (Nm.tsize [m])=0:=by
   rw [Wh.sigE,if_pos (by omega),if_pos (by decide),if_neg (by omega)]
  refine ⟨?_,below_on (alloc_b W' _) b⟩
  rw [hE,Wh.sig,hE,if_pos rfl,hv,Wh.sigT,Wh.padT_zero]
  have e1:Wh.sgn 2 (decide (k<0)&&decide (m≠0))++Wh.fil 2 (Wh.dig 10 false m)=Po.xd k:=by
   unfold Po.xd
   rw [hm]
   by_cases c:k<0
   ·rw [decide_eq_true c,decide_eq_true (show m≠0 by omega),if_pos c];rfl
   ·rw [decide_eq_false c,if_neg c];rfl
  rw [e1]
 have hs1:(w.alloc (.cells #[.int .u8 100,.int .i64 2,.int .i64 0,.int .i64 2] 58)).heap.size=w.heap.size+1:=Array.size_push ..
 have SG1:Hid (Calls Tryz.prog 217 #[.agg #[.int .u8 100,.int .i64 2,.int .i64 0,.int .i64 2],.bool (decide (k<0)),.slice (some ⟨w.heap.size+1,0,none⟩) 1 1] ((w.alloc (.cells #[.int .u8 100,.int .i64 2,.int .i64 0,.int .i64 2] 58)).alloc (.cells #[.int .u64 m] 24)) fun e w'=>e=.returned (.tuple #[.string (strOfNums (Po.xd k)),.int .i64 0])∧Below w.heap.size w w'):=by
  have q:=SG.out (w.alloc (.cells #[.int .u8 100,.int .i64 2,.int .i64 0,.int .i64 2] 58))
  refine Calls.mono (by rw [hs1] at q;exact q) ?_
  rintro e w' ⟨rfl,b⟩
  rw [←hs1] at b
  exact ⟨rfl,below_on (alloc_b w _) b⟩
 clear hs1 SG
 have XL:=Po.xd_len (k:=k) (by omega) (by omega)
 have xs:(strOfNums (Po.xd k)).size=(Po.xd k).length:=strOfNums_size _
 have xl:((strOfNums (Po.xd k)).size:Int)≤4:=by rw [xs];omega
 have E:Hid ((Po.cap V=true→(⟨#[69]⟩:ByteArray)++strOfNums (Po.xd k)=strOfNums (Po.ex V k))∧(Po.cap V=false→(⟨#[101]⟩:ByteArray)++strOfNums (Po.xd k)=strOfNums (Po.ex V k))):=by
  have X:=Str.of_nums (Po.xd_by k)
  constructor
  ·intro c
   have q:Str ((⟨#[69]⟩:ByteArray)++strOfNums (Po.xd k)) ([69]++Po.xd k):=Str.app rfl X
   rw [str_is q,Po.ex,if_pos c];rfl
  ·intro c
   have q:Str ((⟨#[101]⟩:ByteArray)++strOfNums (Po.xd k)) ([101]++Po.xd k):=Str.app rfl X
   rw [str_is q,Po.ex,if_neg (by rw [c];decide)];rfl
 clear XL xs v0 v1
 generalize Po.cap V=b at *
 generalize Po.xd k=X at *
 generalize Po.ex V k=R at *
 generalize hs:strOfNums X=s at *
 clear hs
 cases b with
 | true=>
  have E2:=hid (E.out.1 rfl)
  clear E
  go_enter Tryz.func173,Tryz.ntmps173
  go_wp2_with (go_at_call 165;refine (CP.out _).mono ?_;rintro e w' ⟨rfl,hw⟩;rw [hw];clear hw w')
  with_reducible refine SG1.out.mono ?_
  rintro e w1 ⟨rfl,b1⟩
  have B1:=hid b1
  clear b1
  go_wp2_with fail
  go_ret
  exact ⟨ret_str E2.out,B1.out⟩
 | false=>
  have E2:=hid (E.out.2 rfl)
  clear E
  go_enter Tryz.func173,Tryz.ntmps173
  go_wp2_with (go_at_call 165;refine (CP.out _).mono ?_;rintro e w' ⟨rfl,hw⟩;rw [hw];clear hw w')
  with_reducible refine SG1.out.mono ?_
  rintro e w1 ⟨rfl,b1⟩
  have B1:=hid b1
  clear b1
  go_wp2_with fail
  go_ret
  exact ⟨ret_str E2.out,B1.out⟩
set_option maxRecDepth 100000 in
set_option maxHeartbeats 2000000 in
theorem pplaced_any (d n:Int) (w:World) (hT:Tab w) (h0:0≤d) (h1:d<18446744073709551616):
  Calls Tryz.prog 114 #[.int .u64 d,.int .i64 n] w fun e w'=>e=.returned (NumV (Fx.pA d n) (Fx.pB d n) [])∧Below w.heap.size w w':=by
 have B:=hid (NB.new w)
 have PL:=hid (plx_any d n _ (hT.below (NB.new w).bel) h0 h1)
 generalize Fx.pA d n=A at *
 generalize Fx.pB d n=C at *
 generalize Fx.rf d n 0=r at *
 clear hT h0 h1
 go_enter Tryz.func114,Tryz.ntmps114
 go_wp2_with fail
 refine PL.out.mono ?_
 rintro e w1 ⟨rfl,b1⟩
 have B1:=hid (B.out.on b1)
 have B2:=hid (B1.out.put A C [])
 obtain ⟨⟨c0,c1,c2⟩,f0,f1,f2⟩:=B1.out.box.cells
 clear b1 B PL
 go_wp2_with fail
 (try simp only [Exit.inBlock,Exit.then])
 refine bodyPost_ret (results_cell_row rfl _ _ w.heap.size 161 _ (0,0) _ rfl B2.out.box Tryz.underlying161 rfl (by kernel_rfl)) rfl ?_
 exact ⟨rfl,B2.out.bel⟩
end Go.Proofs.YtbdhlfklcdegdaaGreatDoor

namespace Go.Proofs.YtbdhlfklcdegdaaGreatDoor
open Go Go.RowKit Go.Deep
namespace Po
noncomputable def tb (V F P d:Int):List Int:=if Ie.fnt d=true then bd V (Wh.bit F 8) P d else nm (cap V) (Ie.cls d)
theorem ren_pad {V F W P d:Int} (h:renE V F W P=0):ren V F W P d=Wh.padT F W (Ie.fnt d) (Wh.sgn F (ng d)) (tb V F P d):=by
 unfold ren tb
 rw [if_pos h]
 by_cases c:Ie.fnt d=true
 ·rw [if_pos c,if_pos c,c]
 ·rw [if_neg c,if_neg c,show Ie.fnt d=false by simpa using c]
theorem renE_ok {V F W P:Int} (h:renE V F W P=0):okV V=true∧Wh.chk F W P=0:=by
 unfold renE at h
 split at h
 ·next c=>exact ⟨c,h⟩
 ·omega
theorem cls_of {d:Int} (h:Ie.fnt d=false):Ie.cls d=3∨Ie.cls d=4:=by
 unfold Ie.fnt at h
 rw [decide_eq_false_iff_not] at h
 unfold Ie.cls at *
 split at h
 ·split at h <;> omega
 ·split at h
  ·rename_i a b
   rw [if_neg a,if_pos b]
   split <;> omega
  ·omega
theorem tb_ok {V F P d:Int} (p0:-1≤P) (p1:P≤4096):Wh.By (tb V F P d)∧(tb V F P d).length≤20000:=by
 unfold tb
 split
 ·next c=>exact bd_ok _ c p0 p1
 ·exact ⟨nm_by _ _,by have:=nm_len (cap V) (Ie.cls d);omega⟩
theorem ren_len {V F W P d:Int}:(ren V F W P d).length≤30000∧Wh.By (ren V F W P d):=by
 by_cases h:renE V F W P=0
 ·obtain ⟨-,b⟩:=renE_ok h
  obtain ⟨f,w,p⟩:=Wh.chk_ok b
  have k:=tb_ok (V:=V) (F:=F) (d:=d) p.1 p.2
  have s:=Wh.sgn_len F (ng d)
  rw [ren_pad h]
  refine ⟨?_,Wh.padT_by (Wh.sgn_by _ _) k.1⟩
  rw [Wh.padT_len]
  omega
 ·unfold ren
  rw [if_neg h]
  exact ⟨by simp,Wh.By.nil⟩
def low (x:Int):Int:=if 65≤x∧x≤90 then x+32 else x
theorem low_id {x:Int} (h:¬(65≤x∧x≤90)):low x=x:=if_neg h
theorem map_id {xs:List Int} (h:∀x∈xs,¬(65≤x∧x≤90)):xs.map low=xs:=by
 induction xs with
 | nil=>rfl
 | cons x l ih=>rw [List.map_cons,low_id (h x (by simp)),ih (fun y hy=>h y (by simp [hy]))]
def NoS (xs:List Int):Prop:=∀x∈xs,¬(97≤x∧x≤122)
theorem NoS.app {a b:List Int} (h:NoS a) (k:NoS b):NoS (a++b):=by
 intro x hx
 rcases List.mem_append.1 hx with q | q
 ·exact h x q
 ·exact k x q
theorem NoS.digs {a:List Int} (h:Digs a):NoS a:=fun x hx=>by have:=h x hx;omega
theorem NoS.cons {c:Int} {a:List Int} (h0:¬(97≤c∧c≤122)) (h:NoS a):NoS (c::a):=by
 intro x hx
 rcases List.mem_cons.1 hx with q | q
 ·rw [q];exact h0
 ·exact h x q
theorem NoS.nil:NoS []:=by intro x h;simp at h
end Po
end Go.Proofs.YtbdhlfklcdegdaaGreatDoor

namespace Go.Proofs.YtbdhlfklcdegdaaGreatDoor
open Go Go.RowKit Go.Deep
namespace Po
def hd (a b:List Int) (h:Bool):List Int:=if b=[]∧h=false then a else a++46::b
theorem wrt_hd (a b p:List Int) (h:Bool):wrt a b p h=hd a b h++p:=by
 unfold wrt hd
 split <;> simp
end Po
end Go.Proofs.YtbdhlfklcdegdaaGreatDoor
