/-
  Texts put together: JNum, JSigned, VaRN.
-/
import Derived.Test.YtbdhlfklcdegdaaGreatDoorWAH
import Derived.Test.YtbdhlfklcdegdaaGreatDoorWBF
import Derived.Test.YtbdhlfklcdegdaaGreatDoorJPad
import Derived.Laws.Concat
import Derived.Test.YtbdhlfklcdegdaaGreatDoorWBA
import Derived.Test.YtbdhlfklcdegdaaGreatDoorWAD
namespace Go.Proofs.YtbdhlfklcdegdaaGreatDoor
open Go.RowKit Go.Deep
namespace Wh
def dig (B:Int) (up:Bool) (v:Int):List Int:=if v=0 then [] else lets (lettersOf up) (Dn.strip (Dn.dg B v.toNat v))
theorem lt_pow {B:Int} (hB:2≤B) (n:Nat):(n:Int)<B^n:=by
 induction n with
 | zero=>simp
 | succ n ih=>
  rw [Int.pow_succ]
  have p:(1:Int)≤B^n:=Pn.pow_pos' (by omega) n
  have:B^n*2≤B^n*B:=Int.mul_le_mul_of_nonneg_left hB (by omega)
  omega
theorem dig_is {zs:List Int} {B:Int} {up:Bool} {xs:List Int} {E:Int} (hz:Nm.Limbs zs) (h0:0<Nm.val zs) (h1:Nm.tsize zs≤4096) (hB:2≤B) (h36:B≤36) (h:InIs zs B up xs E):xs=dig B up (Nm.val zs)∧E=0:=by
 have t0:0<Nm.tsize zs:=by have:=Nm.tsize_zero_iff hz;omega
 have hl:Nm.val zs<B^(Nm.val zs).toNat:=by have:=lt_pow hB (Nm.val zs).toNat;omega
 have q:=h.one hz (.ok (Nm.val zs).toNat t0 h1 hB h36 hl)
 rw [dig,if_neg (by omega)]
 exact q
structure Dg (B:Int) (up:Bool) (v:Int) (xs:List Int):Prop where
 ne:xs≠[]
 len:xs.length≤262144
 case_:∀i,i<xs.length→(up=true→¬(97≤xs.getD i 0∧xs.getD i 0≤122))∧(up=false→¬(65≤xs.getD i 0∧xs.getD i 0≤90))
 dig:∀i,i<xs.length→wv (xs.getD i 0)<B
 val:Dn.tv B 0 (xs.map wv)=v
 head:xs.getD 0 0≠48
theorem dig_good {zs:List Int} {B:Int} {up:Bool} (hz:Nm.Limbs zs) (h0:0<Nm.val zs) (h1:Nm.tsize zs≤4096) (hB:2≤B) (h36:B≤36):Dg B up (Nm.val zs) (dig B up (Nm.val zs)):=by
 have t0:0<Nm.tsize zs:=by have:=Nm.tsize_zero_iff hz;omega
 have hl:Nm.val zs<B^(Nm.val zs).toNat:=by have:=lt_pow hB (Nm.val zs).toNat;omega
 have g:=good_ok (up:=up) hz t0 h1 hB h36 hl
 rw [dig,if_neg (by omega)]
 exact ⟨g.ne,g.len,g.case_,g.dig,g.val,g.head t0⟩
theorem lets_by (up:Bool) (ds:List Int):By (lets (lettersOf up) ds):=by
 intro x hx
 obtain ⟨d,_,rfl⟩:=List.mem_map.1 hx
 have k:∀(l:List Int),(∀y∈l,0≤y∧y<256)→0≤l.getD d.toNat 0∧l.getD d.toNat 0<256:=by
  intro l hl
  rw [List.getD_eq_getElem?_getD]
  cases h:l[d.toNat]? with
  | none=>simp
  | some y=>exact hl y (List.mem_of_getElem? h)
 apply k
 cases up
 ·show ∀y∈smallL,_
  decide
 ·show ∀y∈capL,_
  decide
theorem dig_by (B:Int) (up:Bool) (v:Int):By (dig B up v):=by
 unfold dig
 split
 ·exact By.nil
 ·exact lets_by _ _
def fil (P:Int) (d:List Int):List Int:=rep 48 ((if P=-1 then 1 else P) - d.length)++d
theorem fil_by {P:Int} {d:List Int} (h:By d):By (fil P d):=(By.rep (by omega)).app h
theorem fil_len (P:Int) (d:List Int):(fil P d).length=((if P=-1 then 1 else P) - d.length).toNat+d.length:=by
 rw [fil,List.length_append,rep_len]
def sgn (F:Int) (below:Bool):List Int:=if below=true then [45] else if bit F 2=true then [43] else if bit F 4=true then [32] else []
theorem sgn_by (F:Int) (b:Bool):By (sgn F b):=by
 unfold sgn
 split
 ·intro x hx;simp at hx;omega
 ·split
  ·intro x hx;simp at hx;omega
  ·split
   ·intro x hx;simp at hx;omega
   ·exact By.nil
theorem sgn_len (F:Int) (b:Bool):(sgn F b).length≤1:=by
 unfold sgn
 split
 ·simp
 ·split
  ·simp
  ·split <;> simp
def sigE (V F W P:Int) (t:Nat):Int:=if V=100∨V=105 then (if chk F W P=0 then (if 4096<t then 2 else 0) else chk F W P) else 140
def sigT (F W P:Int) (neg:Bool) (v:Int):List Int:=padT F W (decide (P=-1)) (sgn F (neg&&decide (v≠0))) (fil P (dig 10 false v))
def sig (V F W P:Int) (neg:Bool) (zs:List Int):List Int:=if sigE V F W P (Nm.tsize zs)=0 then sigT F W P neg (Nm.val zs) else []
def base (V:Int):Int:=if V=111 then 8 else if V=120∨V=88 then 16 else 10
end Wh
end Go.Proofs.YtbdhlfklcdegdaaGreatDoor

namespace Go.Proofs.YtbdhlfklcdegdaaGreatDoor
open Go Go.RowKit Go.Deep Go.Shelf
theorem str_app {a b:List Int} (ha:Wh.By a) (hb:Wh.By b):strOfNums a++strOfNums b=strOfNums (a++b):=by
 have k:Str (strOfNums a++strOfNums b) (a++b):=by
  have h1:=Str.of_nums ha
  have h2:=Str.of_nums hb
  unfold Str at *
  conv=>rhs;rw [←h1,←h2,←List.map_append]
  simp
 exact str_is k
theorem ret_se {a b:ByteArray} {x y:Int} (h:a=b) (k:x=y):Ending.returned (.tuple #[.string a,.int .i64 x])=.returned (.tuple #[.string b,.int .i64 y]):=by rw [h,k]
set_option maxRecDepth 100000 in
theorem filled_any (V F W P:Int) (d:List Int) (w:World) (p0:-1≤P) (p1:P≤4096) (hd:Wh.By d) (hl:d.length≤262144):
  Calls Tryz.prog 258 #[.agg #[.int .u8 V,.int .i64 F,.int .i64 W,.int .i64 P],.string (strOfNums d)] w fun e w'=>e=.returned (.string (strOfNums (Wh.fil P d)))∧Below w.heap.size w w':=by
 have B0:=hid (SB.new w V F W P)
 have sd:(strOfNums d).size=d.length:=strOfNums_size d
 have l2:(d.length:Int)≤262144:=by omega
 obtain ⟨M,hM⟩:∃M:Nat,M=((if P=-1 then 1 else P) - (d.length:Int)).toNat:=⟨_,rfl⟩
 have M1:M≤4096:=by rw [hM];split <;> omega
 have m0:(M:Int)≤4096:=by omega
 have RE:=hid (fun W'=>jrep48 M W' (by omega))
 have sr:(strOfNums (Wh.rep 48 (M:Int))).size=M:=by rw [strOfNums_size,Wh.rep_len];omega
 have G:Hid (strOfNums (Wh.rep 48 (M:Int))++strOfNums d=strOfNums (Wh.fil P d)):=by
  rw [Hid,str_app (Wh.By.rep (by omega)) hd,Wh.fil]
  have e:Wh.rep 48 (M:Int)=Wh.rep 48 ((if P=-1 then 1 else P) - (d.length:Int)):=by rw [Wh.rep,Wh.rep,hM];rfl
  rw [e]
 by_cases hP:P=-1
 ·have mx:max 0 (1 - (d.length:Int))=(M:Int):=by rw [hM,if_pos hP];omega
  subst hP
  clear hd hl hM p0 p1
  obtain ⟨c0,c1,c2,c3⟩:=B0.out.flat
  go_enter Tryz.func258,Tryz.ntmps258
  go_wp2_with fail
  with_reducible refine (RE.out _).mono ?_
  rintro e w1 ⟨rfl,b1⟩
  have B1:=hid (B0.out.on b1).bel
  clear b1 RE
  go_wp2_with fail
  go_ret
  exact ⟨ret_str G.out,B1.out⟩
 ·have mx:max 0 (P - (d.length:Int))=(M:Int):=by rw [hM,if_neg hP];omega
  have hne:(P == -1)=false:=by simpa using hP
  clear hd hl hM hP
  obtain ⟨c0,c1,c2,c3⟩:=B0.out.flat
  go_enter Tryz.func258,Tryz.ntmps258
  go_wp2_with fail
  with_reducible refine (RE.out _).mono ?_
  rintro e w1 ⟨rfl,b1⟩
  have B1:=hid (B0.out.on b1).bel
  clear b1 RE
  go_wp2_with fail
  go_ret
  exact ⟨ret_str G.out,B1.out⟩
set_option maxRecDepth 100000 in
theorem wsign_any (V F W P:Int) (bl:Bool) (w:World) (f0:0≤F) (f1:F≤31):
  Calls Tryz.prog 257 #[.agg #[.int .u8 V,.int .i64 F,.int .i64 W,.int .i64 P],.bool bl] w fun e w'=>e=.returned (.string (strOfNums (Wh.sgn F bl)))∧Below w.heap.size w w':=by
 have B0:=hid (SB.new w V F W P)
 have H2:=hid (fun W'=>has_any V F W P 2 W' f0 f1 (by omega))
 have H4:=hid (fun W'=>has_any V F W P 4 W' f0 f1 (by omega))
 clear f0 f1
 obtain ⟨c0,c1,c2,c3⟩:=B0.out.flat
 cases bl with
 | true=>
  have G:Hid (strOfNums (Wh.sgn F true)=⟨#[45]⟩):=rfl
  clear H2 H4
  go_enter Tryz.func257,Tryz.ntmps257
  go_wp2_with fail
  go_ret
  exact ⟨ret_str G.out.symm,B0.out.bel⟩
 | false=>
  cases h2:Wh.bit F 2 with
  | true=>
   have G:Hid (strOfNums (Wh.sgn F false)=⟨#[43]⟩):=by rw [Hid,Wh.sgn,if_neg Bool.false_ne_true,if_pos h2];rfl
   rw [h2] at H2
   clear H4
   go_enter Tryz.func257,Tryz.ntmps257
   go_wp2_with fail
   with_reducible refine (H2.out _).mono ?_
   rintro e w1 ⟨rfl,b1⟩
   have B1:=hid (B0.out.on b1).bel
   clear b1 H2
   go_wp2_with fail
   go_ret
   exact ⟨ret_str G.out.symm,B1.out⟩
  | false=>
   rw [h2] at H2
   cases h4:Wh.bit F 4 with
   | true=>
    have G:Hid (strOfNums (Wh.sgn F false)=⟨#[32]⟩):=by rw [Hid,Wh.sgn,if_neg Bool.false_ne_true,h2,if_neg Bool.false_ne_true,if_pos h4];rfl
    rw [h4] at H4
    go_enter Tryz.func257,Tryz.ntmps257
    go_wp2_with fail
    with_reducible refine (H2.out _).mono ?_
    rintro e w1 ⟨rfl,b1⟩
    have B1:=hid (B0.out.on b1)
    clear b1 H2 c0 c1 c2 c3
    obtain ⟨c0,c1,c2,c3⟩:=B1.out.flat
    go_wp2_with fail
    with_reducible refine (H4.out _).mono ?_
    rintro e w2 ⟨rfl,b2⟩
    have B2:=hid (B1.out.on b2).bel
    clear b2 H4
    go_wp2_with fail
    go_ret
    exact ⟨ret_str G.out.symm,B2.out⟩
   | false=>
    have G:Hid (strOfNums (Wh.sgn F false)=⟨#[]⟩):=by rw [Hid,Wh.sgn,if_neg Bool.false_ne_true,h2,if_neg Bool.false_ne_true,h4,if_neg Bool.false_ne_true];rfl
    rw [h4] at H4
    go_enter Tryz.func257,Tryz.ntmps257
    go_wp2_with fail
    with_reducible refine (H2.out _).mono ?_
    rintro e w1 ⟨rfl,b1⟩
    have B1:=hid (B0.out.on b1)
    clear b1 H2 c0 c1 c2 c3
    obtain ⟨c0,c1,c2,c3⟩:=B1.out.flat
    go_wp2_with fail
    with_reducible refine (H4.out _).mono ?_
    rintro e w2 ⟨rfl,b2⟩
    have B2:=hid (B1.out.on b2).bel
    clear b2 H4
    go_wp2_with fail
    go_ret
    exact ⟨ret_str G.out.symm,B2.out⟩
set_option maxRecDepth 100000 in
theorem digitsOf_any (p:Option Addr) (n cap:Nat) (za:List Int) (B:Int) (up:Bool) (w:World) (ha:Arg w p n cap za) (hB:2≤B) (h36:B≤36):
  Calls Tryz.prog 256 #[.slice p n cap,.int .i64 B,.bool up] w fun e w'=>e=.returned (.tuple #[.string (strOfNums (if 4096<Nm.tsize za then [] else Wh.dig B up (Nm.val za))),.int .i64 (if 4096<Nm.tsize za then 2 else 0)])∧Below w.heap.size w w':=by
 obtain ⟨L,hL,hbig,hzero⟩:=blen_big ha.2.2.2.2
 have BL:=hid (bitLen_isT L p n cap za w ha hL)
 have hv:=(Nm.tsize_zero_iff ha.2.2.2.2)
 by_cases h0:Nm.tsize za=0
 ·have hL0:(L:Int)=0:=hzero.2 h0
  obtain rfl:L=0:=by omega
  have G:Hid (strOfNums (Wh.dig B up (Nm.val za))=⟨#[]⟩):=by rw [Hid,Wh.dig,if_pos (hv.1 h0)];rfl
  rw [if_neg (by omega),if_neg (by omega)]
  clear ha hL hbig hzero hv h0
  go_enter Tryz.func256,Tryz.ntmps256
  go_wp2_with fail
  with_reducible refine BL.out.mono ?_
  rintro e w' ⟨rfl,hw⟩
  rw [hw]
  clear hw w'
  go_wp2_with fail
  go_ret2
  exact ⟨ret_se G.out.symm rfl,Below.refl _ _⟩
 ·have hL0:((L:Int) == 0)=false:=by rw [beq_eq_false_iff_ne];intro c;exact h0 (hzero.1 c)
  have hLi:(L:Int)≠0:=by simpa using hL0
  have v0:0<Nm.val za:=by have:=(Nm.val_bd za ha.2.2.2.2).1;omega
  have IB:=hid (inBase_any p n cap za B up w ha (by omega) (by omega))
  have G:Hid (∀s xs E,Str s xs→InIs za B up xs E→s=strOfNums (if 4096<Nm.tsize za then [] else Wh.dig B up (Nm.val za))∧E=if 4096<Nm.tsize za then 2 else 0):=by
   intro s xs E hs hi
   by_cases hb:4096<Nm.tsize za
   ·rw [if_pos hb,if_pos hb]
    cases hi with
    | big _=>exact ⟨str_is hs,rfl⟩
    | base q _=>omega
    | zero q _ _=>omega
    | ok _ _ q _ _ _=>omega
   ·rw [if_neg hb,if_neg hb]
    obtain ⟨e1,e2⟩:=Wh.dig_is ha.2.2.2.2 v0 (by omega) hB h36 hi
    exact ⟨by rw [←e1];exact str_is hs,e2⟩
  generalize (if 4096<Nm.tsize za then [] else Wh.dig B up (Nm.val za))=D at *
  generalize (if 4096<Nm.tsize za then (2:Int) else 0)=EE at *
  clear ha hL hbig hzero hv h0 v0
  go_enter Tryz.func256,Tryz.ntmps256
  go_wp2_with fail
  with_reducible refine BL.out.mono ?_
  rintro e w' ⟨rfl,hw⟩
  rw [hw]
  clear hw w'
  go_wp2_with fail
  with_reducible refine IB.out.mono ?_
  rintro e w1 ⟨s,xs,E,rfl,hs,hi,b1⟩
  obtain ⟨e1,e2⟩:=G.out s xs E hs hi
  have B1:=hid b1
  have E1:=hid e1
  have E2:=hid e2
  clear hs hi b1 e1 e2
  go_wp2_with fail
  go_ret2
  exact ⟨ret_se E1.out E2.out,B1.out⟩
def SigTold (V F W P:Int) (neg:Bool) (zs:List Int) (w:World) (e:Ending) (w':World):Prop:=e=.returned (.tuple #[.string (strOfNums (Wh.sig V F W P neg zs)),.int .i64 (Wh.sigE V F W P (Nm.tsize zs))])∧Below w.heap.size w w'
theorem isEmpty_nums (d:List Int):(strOfNums d).toList.isEmpty=d.isEmpty:=by
 rw [ByteArray.toList_eq,strOfNums_data]
 cases d <;> rfl
def below (neg:Bool) (v:Int):Bool:=neg&&decide (v≠0)
theorem dig_nil (B:Int) (up:Bool) (zs:List Int) (hz:Nm.Limbs zs) (h1:Nm.tsize zs≤4096) (hB:2≤B) (h36:B≤36):(Wh.dig B up (Nm.val zs)).isEmpty=decide (Nm.val zs=0)∧(Wh.dig B up (Nm.val zs)).length≤262144:=by
 have v:=(Nm.val_bd zs hz).1
 by_cases h:Nm.val zs=0
 ·rw [Wh.dig,if_pos h,decide_eq_true h];exact ⟨rfl,by simp⟩
 ·have g:=Wh.dig_good (up:=up) hz (by omega) h1 hB h36
  refine ⟨?_,g.len⟩
  rw [decide_eq_false h]
  cases e:Wh.dig B up (Nm.val zs) with
  | nil=>exact absurd e g.ne
  | cons _ _=>rfl
theorem toList_nums (d:List Int):((strOfNums d).toList == [])=d.isEmpty:=by
 rw [ByteArray.toList_eq,strOfNums_data]
 cases d <;> rfl
set_option maxRecDepth 100000 in
set_option maxHeartbeats 2000000 in
theorem wsigned_any (V F W P:Int) (neg:Bool) (p:Option Addr) (n cap:Nat) (zs:List Int) (w:World) (h0:0≤V) (h1:V<256) (ha:Arg w p n cap zs):
  Calls Tryz.prog 217 #[.agg #[.int .u8 V,.int .i64 F,.int .i64 W,.int .i64 P],.bool neg,.slice p n cap] w fun e w'=>SigTold V F W P neg zs w e w':=by
 have B0:=hid (SB.new w V F W P)
 have CV:=hid (fun W'=>checkVerb_any V F W P ⟨#[100,105]⟩ _ W' (vb_di V h0 h1))
 by_cases hV:V=100∨V=105
 ·rw [if_pos (decide_eq_true hV)] at CV
  by_cases hc:Wh.chk F W P=0
  ·obtain ⟨⟨f0,f1⟩,⟨wl,wu⟩,⟨p0,p1⟩⟩:=Wh.chk_ok hc
   rw [hc] at CV
   have DG:=hid (fun W' (k:Below w.heap.size w W')=>digitsOf_any p n cap zs 10 false W' (ha.below k (Nat.le_refl _)) (by omega) (by omega))
   have hE:Wh.sigE V F W P (Nm.tsize zs)=if 4096<Nm.tsize zs then 2 else 0:=by rw [Wh.sigE,if_pos hV,if_pos hc]
   by_cases hb:4096<Nm.tsize zs
   ·rw [if_pos hb] at hE
    rw [if_pos hb,if_pos hb] at DG
    have G:Hid (∀w',Below w.heap.size w w'→SigTold V F W P neg zs w (.returned (.tuple #[.string ⟨#[]⟩,.int .i64 2])) w'):=fun w' k=>⟨by rw [Wh.sig,hE,if_neg (by decide)];rfl,k⟩
    clear ha hV hc hE hb f0 f1 wl wu p0 p1
    go_enter Tryz.func217,Tryz.ntmps217
    go_wp2_with fail
    with_reducible refine (CV.out _).mono ?_
    rintro e w1 ⟨rfl,b1⟩
    have B1:=hid (B0.out.on b1)
    clear b1 CV B0
    go_wp2_with fail
    with_reducible refine (DG.out _ B1.out.bel).mono ?_
    rintro e w2 ⟨rfl,b2⟩
    have R:=hid (G.out _ (B1.out.on b2).bel)
    clear b2 DG B1
    go_wp2_with fail
    go_ret2
    exact R.out
   ·rw [if_neg hb] at hE
    rw [if_neg hb,if_neg hb] at DG
    obtain ⟨di,dl⟩:=dig_nil 10 false zs ha.2.2.2.2 (by omega) (by omega) (by omega)
    have dy:=Wh.dig_by 10 false (Nm.val zs)
    have FI:=hid (fun W'=>filled_any V F W P (Wh.dig 10 false (Nm.val zs)) W' p0 p1 dy dl)
    have SG:=hid (fun W'=>wsign_any V F W P (below neg (Nm.val zs)) W' f0 f1)
    have sl:=Wh.sgn_len F (below neg (Nm.val zs))
    have fl:=Wh.fil_len P (Wh.dig 10 false (Nm.val zs))
    have fl2:(Wh.fil P (Wh.dig 10 false (Nm.val zs))).length≤270000:=by rw [fl];split <;> omega
    have PA:=hid (fun W'=>pad_any V F W P (Wh.sgn F (below neg (Nm.val zs))) (Wh.fil P (Wh.dig 10 false (Nm.val zs))) (decide (P=-1)) W' (Wh.sgn_by _ _) (Wh.fil_by dy) (by omega) (by omega))
    have pe:Wh.padE F W P (Wh.sgn F (below neg (Nm.val zs))) (Wh.fil P (Wh.dig 10 false (Nm.val zs)))=0:=by rw [Wh.padE,if_pos hc,if_neg (by omega)]
    have G:Hid (∀W' e w',PadTold F W P (decide (P=-1)) (Wh.sgn F (below neg (Nm.val zs))) (Wh.fil P (Wh.dig 10 false (Nm.val zs))) W' e w'→Below w.heap.size w W'→∃s,e=.returned (.tuple #[.string s,.int .i64 0])∧SigTold V F W P neg zs w (.returned (.tuple #[.string s,.int .i64 0])) w'):=by
     rintro W' e w' ⟨rfl,k⟩ b
     rw [pe]
     exact ⟨_,rfl,by rw [Wh.sig,hE,if_pos rfl,Wh.pad,if_pos pe];rfl,below_on b k⟩
    have DI:=isEmpty_nums (Wh.dig 10 false (Nm.val zs))
    have DJ:=toList_nums (Wh.dig 10 false (Nm.val zs))
    rw [di] at DI DJ
    have NEG:(neg&&!decide (Nm.val zs=0))=below neg (Nm.val zs):=by unfold below;simp
    have ep:(P == -1)=decide (P=-1):=by by_cases h:P=-1 <;> simp [h]
    clear ha hV hc hE hb f0 f1 wl wu di dl dy sl fl fl2 pe h0 h1
    generalize Wh.dig 10 false (Nm.val zs)=D at *
    generalize Wh.fil P D=FD at *
    generalize decide (Nm.val zs=0)=z0 at *
    generalize below neg (Nm.val zs)=bl at *
    generalize Wh.sgn F bl=SN at *
    generalize decide (P=-1)=ez at *
    go_enter Tryz.func217,Tryz.ntmps217
    go_wp2_with fail
    with_reducible refine (CV.out _).mono ?_
    rintro e w1 ⟨rfl,b1⟩
    have B1:=hid (B0.out.on b1)
    clear b1 CV B0
    go_wp2_with fail
    with_reducible refine (DG.out _ B1.out.bel).mono ?_
    rintro e w2 ⟨rfl,b2⟩
    have B2:=hid (B1.out.on b2)
    clear b2 DG B1
    obtain ⟨c0,c1,c2,c3⟩:=B2.out.flat
    cases neg with
    | true=>
     have NEG2:bl=!z0:=by simpa using NEG.symm
     subst NEG2
     clear NEG
     go_wp2_with fail
     with_reducible refine (SG.out _).mono ?_
     rintro e w3 ⟨rfl,b3⟩
     have B3:=hid (B2.out.on b3)
     clear b3 SG B2 c0 c1 c2 c3
     go_upto_region 8 with fail
     have T1:=hid B3.out.drew
     go_region_held3 (fun wx=>wx.cell? ⟨w.heap.size,0,none⟩=some (.int .u8 V)∧wx.cell? ⟨w.heap.size,1,none⟩=some (.int .i64 F)∧wx.cell? ⟨w.heap.size,2,none⟩=some (.int .i64 W)∧wx.cell? ⟨w.heap.size,3,none⟩=some (.int .i64 P)) (first | (with_reducible exact T3.out.flat) | (with_reducible exact T2.out.flat) | (with_reducible exact T1.out.flat)) (first
      | (go_at_call 258;with_reducible refine (FI.out _).mono ?_;rintro e wa ⟨rfl,hB⟩;have T2:=hid (T1.out.on hB);clear hB)
      | (go_at_call 73;with_reducible refine (PA.out _).mono ?_;rintro e wb hP;have T3:=hid (T2.out.on hP.bel);obtain ⟨s,rfl,R⟩:=G.out _ _ _ hP T2.out.bel;have R:=hid R;clear hP))
     go_wp2_with fail
     go_ret2
     exact R.out
    | false=>
     have NEG2:bl=false:=by simpa using NEG.symm
     subst NEG2
     clear NEG
     go_wp2_with fail
     with_reducible refine (SG.out _).mono ?_
     rintro e w3 ⟨rfl,b3⟩
     have B3:=hid (B2.out.on b3)
     clear b3 SG B2 c0 c1 c2 c3
     go_upto_region 8 with fail
     have T1:=hid B3.out.drew
     go_region_held3 (fun wx=>wx.cell? ⟨w.heap.size,0,none⟩=some (.int .u8 V)∧wx.cell? ⟨w.heap.size,1,none⟩=some (.int .i64 F)∧wx.cell? ⟨w.heap.size,2,none⟩=some (.int .i64 W)∧wx.cell? ⟨w.heap.size,3,none⟩=some (.int .i64 P)) (first | (with_reducible exact T3.out.flat) | (with_reducible exact T2.out.flat) | (with_reducible exact T1.out.flat)) (first
      | (go_at_call 258;with_reducible refine (FI.out _).mono ?_;rintro e wa ⟨rfl,hB⟩;have T2:=hid (T1.out.on hB);clear hB)
      | (go_at_call 73;with_reducible refine (PA.out _).mono ?_;rintro e wb hP;have T3:=hid (T2.out.on hP.bel);obtain ⟨s,rfl,R⟩:=G.out _ _ _ hP T2.out.bel;have R:=hid R;clear hP))
     go_wp2_with fail
     go_ret2
     exact R.out
  ·have hE:Wh.sigE V F W P (Nm.tsize zs)=Wh.chk F W P:=by rw [Wh.sigE,if_pos hV,if_neg hc]
   have G:Hid (∀w',Below w.heap.size w w'→SigTold V F W P neg zs w (.returned (.tuple #[.string ⟨#[]⟩,.int .i64 (Wh.chk F W P)])) w'):=fun w' k=>⟨by rw [Wh.sig,hE,if_neg hc];rfl,k⟩
   have hne:(Wh.chk F W P == 0)=false:=by simpa using hc
   clear hc hE ha hV
   generalize Wh.chk F W P=E at *
   go_enter Tryz.func217,Tryz.ntmps217
   go_wp2_with fail
   refine (CV.out _).mono ?_
   rintro e w1 ⟨rfl,b1⟩
   have R:=hid (G.out _ (B0.out.on b1).bel)
   clear b1 CV
   go_wp2_with fail
   go_ret2
   exact R.out
 ·rw [if_neg (by simpa using hV)] at CV
  have hE:Wh.sigE V F W P (Nm.tsize zs)=140:=by rw [Wh.sigE,if_neg hV]
  have G:Hid (∀w',Below w.heap.size w w'→SigTold V F W P neg zs w (.returned (.tuple #[.string ⟨#[]⟩,.int .i64 140])) w'):=fun w' k=>⟨by rw [Wh.sig,hE,if_neg (by decide)];rfl,k⟩
  clear ha hV hE
  go_enter Tryz.func217,Tryz.ntmps217
  go_wp2_with fail
  refine (CV.out _).mono ?_
  rintro e w1 ⟨rfl,b1⟩
  have R:=hid (G.out _ (B0.out.on b1).bel)
  clear b1 CV
  go_wp2_with fail
  go_ret2
  exact R.out
end Go.Proofs.YtbdhlfklcdegdaaGreatDoor

namespace Go.Proofs.YtbdhlfklcdegdaaGreatDoor
namespace Va
theorem dl_dg (u:Nat):(Dn.dg 10 (Sc.dl u).length (u:Int)).map (fun d=>48+d)=Sc.dl u∧(u:Int)<10^(Sc.dl u).length:=by
 induction u using Nat.strongRecOn with
 | _ u ih=>
  by_cases h:u<10
  ·rw [Sc.dl_small h]
   refine ⟨?_,by simp;omega⟩
   rw [show ([48+(u:Int)]:List Int).length=1 from rfl,Dn.dg_one]
   simp;omega
  ·obtain ⟨a,b⟩:=ih (u/10) (by omega)
   rw [Sc.dl_big h,List.length_append]
   refine ⟨?_,?_⟩
   ·rw [show ([48+((u%10:Nat):Int)]:List Int).length=1 from rfl,Dn.dg_split (by omega),List.map_append,Dn.dg_one]
    rw [show (u:Int)/10^1=((u/10:Nat):Int) by omega,a]
    simp
   ·rw [show ([48+((u%10:Nat):Int)]:List Int).length=1 from rfl,Int.pow_succ]
    omega
theorem lets_small {ds:List Int} (h:∀d∈ds,0≤d∧d<10):lets (lettersOf false) ds=ds.map fun d=>48+d:=by
 refine List.map_congr_left (fun d hd=>?_)
 have b:=h d hd
 rcases (show d=0∨d=1∨d=2∨d=3∨d=4∨d=5∨d=6∨d=7∨d=8∨d=9 by omega) with rfl | rfl | rfl | rfl | rfl | rfl | rfl | rfl | rfl | rfl <;> rfl
theorem in_dl {zs xs:List Int} {E:Int} {u:Nat} (hz:Nm.Limbs zs) (hu:Nm.val zs=(u:Int)) (ht:Nm.tsize zs≤4096) (h:InIs zs 10 false xs E):xs=Sc.dl u∧E=0:=by
 rcases Nat.eq_zero_or_pos u with z | z
 ·subst z
  have t0:Nm.tsize zs=0:=(Nm.tsize_zero_iff hz).2 (by omega)
  have q:=h.one hz (.zero t0 (by omega) (by omega))
  exact ⟨by rw [q.1,Sc.dl_small (by omega)];rfl,q.2⟩
 ·have t0:0<Nm.tsize zs:=by have:=Nm.tsize_zero_iff hz;omega
  obtain ⟨a,b⟩:=dl_dg u
  have q:=h.one hz (.ok (Sc.dl u).length t0 ht (by omega) (by omega) (by rw [hu];exact b))
  refine ⟨?_,q.2⟩
  rw [q.1,hu]
  obtain ⟨c,l,e,c1,c2⟩:=Dr.dl_head u z
  have hs:Dn.strip (Dn.dg 10 (Sc.dl u).length (u:Int))=Dn.dg 10 (Sc.dl u).length (u:Int):=by
   rw [e] at a
   cases hd:Dn.dg 10 (c::l).length (u:Int) with
   | nil=>rw [hd] at a;simp at a
   | cons x r=>
    rw [hd] at a
    simp at a
    have x0:decide (x=0)=false:=decide_eq_false (by omega)
    rw [e,hd,Dn.strip,List.dropWhile_cons,x0];rfl
  rw [hs,lets_small (fun d hd=>Dn.dg_mem (by omega) _ _ d hd),a]
theorem itl_nn (u:Nat):itl (u:Int)=Sc.dl u:=by
 unfold itl Sc.dl Lib.itoa
 rw [if_neg (by omega)];simp
theorem itl_ng {u:Nat} (h:1≤u):itl (-(u:Int))=45::Sc.dl u:=by
 unfold itl Sc.dl Lib.itoa
 rw [if_pos (by omega)];simp
end Va
end Go.Proofs.YtbdhlfklcdegdaaGreatDoor
