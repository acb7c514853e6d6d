/-
  Texts put together: PoR7, PoR8, VaE, PoR9, VaRT, VaS, OpenVals, VaL.
-/
import Derived.Test.YtbdhlfklcdegdaaGreatDoorWBZ
import Derived.Test.YtbdhlfklcdegdaaGreatDoorWAH
import Derived.Test.YtbdhlfklcdegdaaGreatDoorWAD
import Derived.Deep.DeepCutAuto
import Derived.BigQuiet
import Derived.Deep.CutBlock
import Derived.Deep.RegionHeld3
import Derived.Test.YtbdhlfklcdegdaaGreatDoorWBO
import Derived.Test.YtbdhlfklcdegdaaGreatDoorWBX
import Derived.Test.YtbdhlfklcdegdaaGreatDoorWAS
import Derived.Test.YtbdhlfklcdegdaaGreatDoorGBulk
import Derived.SizedLaws
import Derived.ProofKit
import Derived.Deep.LoopGhost
import Derived.Deep.RegionWith
namespace Go.Proofs.YtbdhlfklcdegdaaGreatDoor
open Go Go.RowKit Go.Deep Go.Shelf
namespace Po
theorem dl_tx {v:Nat} (h:v≤400):(if v<10 then 48::Sc.dl v else Sc.dl v)=Fx.tx (if (v:Int)<100 then 2 else 3) (v:Int):=by
 have key:∀t:Fin 401,Fx.tx (if (t.val:Int)<100 then 2 else 3) (t.val:Int)=if t.val<100 then [48+((t.val/10:Nat):Int),48+((t.val%10:Nat):Int)] else [48+((t.val/10/10:Nat):Int),48+((t.val/10%10:Nat):Int),48+((t.val%10:Nat):Int)]:=by decide +kernel
 have k:=key ⟨v,by omega⟩
 simp only at k
 rw [k]
 by_cases c:v<10
 ·rw [if_pos c,if_pos (by omega),Sc.dl_small c,show v/10=0 by omega,show v%10=v by omega]
  rfl
 ·rw [if_neg c]
  by_cases e:v<100
  ·rw [if_pos e,Sc.dl_big c,Sc.dl_small (by omega)]
   rfl
  ·rw [if_neg e,Sc.dl_big c,Sc.dl_big (by omega),Sc.dl_small (by omega)]
   rfl
theorem itoa_dl {n:Int} (h:0≤n):(⟨(Lib.itoa n).toArray⟩:ByteArray)=strOfNums (Sc.dl n.toNat):=by
 apply str_is
 have:Lib.itoa n=Lib.decDigits n.toNat:=by rw [Lib.itoa,if_neg (by omega)]
 rw [this]
 rfl
theorem dl_len {v:Nat} (h:v≤400):(Sc.dl v).length=if v<10 then 1 else if v<100 then 2 else 3:=by
 by_cases c:v<10
 ·rw [if_pos c,Sc.dl_small c];rfl
 ·rw [if_neg c]
  by_cases e:v<100
  ·rw [if_pos e,Sc.dl_big c,Sc.dl_small (by omega)];rfl
  ·rw [if_neg e,Sc.dl_big c,Sc.dl_big (by omega),Sc.dl_small (by omega)];rfl
theorem dl_by {v:Nat} (h:v≤400):Wh.By (Sc.dl v):=by
 by_cases c:v<10
 ·rw [Sc.dl_small c];exact Wh.By.cons (by omega) Wh.By.nil
 ·by_cases e:v<100
  ·rw [Sc.dl_big c,Sc.dl_small (by omega)]
   exact (Wh.By.cons (by omega) Wh.By.nil).app (Wh.By.cons (by omega) Wh.By.nil)
  ·rw [Sc.dl_big c,Sc.dl_big (by omega),Sc.dl_small (by omega)]
   exact ((Wh.By.cons (by omega) Wh.By.nil).app (Wh.By.cons (by omega) Wh.By.nil)).app (Wh.By.cons (by omega) Wh.By.nil)
end Po
set_option maxRecDepth 100000 in
set_option maxHeartbeats 4000000 in
theorem xexp_any (L k:Int) (w:World) (ht:Tab10 w) (l0:0≤L) (l1:L<256) (k0:-400≤k) (k1:k≤400):
  Calls Tryz.prog 204 #[.string (strOfNums [L]),.int .i64 k] w fun e w'=>e=.returned (.string (strOfNums (L::Po.xd k)))∧Below w.heap.size w w':=by
 obtain ⟨v,hv,hv2⟩:∃v:Nat,(v:Int)=max k (-k)∧v≤400:=⟨(max k (-k)).toNat,by omega,by omega⟩
 have IT:=hid (itoa_any (v:Int) w (by omega) (by omega) ht)
 rw [Po.itoa_dl (by omega),Int.toNat_natCast] at IT
 have yL:Wh.By [L]:=Wh.By.cons ⟨l0,l1⟩ Wh.By.nil
 have zL:(strOfNums [L]).size=1:=by rw [strOfNums_size];rfl
 have zD:(strOfNums (Sc.dl v)).size=if v<10 then 1 else if v<100 then 2 else 3:=by rw [strOfNums_size,Po.dl_len hv2]
 have xd:=Po.xd_is k0 k1
 rw [←hv,←Po.dl_tx hv2] at xd
 have yd:=Po.dl_by hv2
 have R1:Hid (k<0→v<10→strOfNums [L]++⟨#[45]⟩++(⟨#[48]⟩++strOfNums (Sc.dl v))=strOfNums (L::Po.xd k)):=fun a b=>by
  rw [xd,if_pos a,if_pos b]
  exact str_is (((Str.of_nums yL).app (show Str ⟨#[45]⟩ [45] from rfl)).app ((show Str ⟨#[48]⟩ [48] from rfl).app (Str.of_nums yd)))
 have R2:Hid (k<0→¬v<10→strOfNums [L]++⟨#[45]⟩++strOfNums (Sc.dl v)=strOfNums (L::Po.xd k)):=fun a b=>by
  rw [xd,if_pos a,if_neg b]
  exact str_is (((Str.of_nums yL).app (show Str ⟨#[45]⟩ [45] from rfl)).app (Str.of_nums yd))
 have R3:Hid (¬k<0→v<10→strOfNums [L]++⟨#[43]⟩++(⟨#[48]⟩++strOfNums (Sc.dl v))=strOfNums (L::Po.xd k)):=fun a b=>by
  rw [xd,if_neg a,if_pos b]
  exact str_is (((Str.of_nums yL).app (show Str ⟨#[43]⟩ [43] from rfl)).app ((show Str ⟨#[48]⟩ [48] from rfl).app (Str.of_nums yd)))
 have R4:Hid (¬k<0→¬v<10→strOfNums [L]++⟨#[43]⟩++strOfNums (Sc.dl v)=strOfNums (L::Po.xd k)):=fun a b=>by
  rw [xd,if_neg a,if_neg b]
  exact str_is (((Str.of_nums yL).app (show Str ⟨#[43]⟩ [43] from rfl)).app (Str.of_nums yd))
 clear xd yL yd ht l0 l1 hv2
 generalize strOfNums (L::Po.xd k)=RR at *
 generalize strOfNums [L]=sl at *
 generalize strOfNums (Sc.dl v)=sd at *
 by_cases hk:k<0
 ·have ev:-k=(v:Int):=by omega
  by_cases hv':v<10
  ·have R:=hid (R1.out hk hv')
   rw [if_pos hv'] at zD
   clear R1 R2 R3 R4 hv hv'
   go_enter Tryz.func204,Tryz.ntmps204
   go_wp2_with fail
   with_reducible refine IT.out.mono ?_
   rintro e w1 ⟨rfl,b1⟩
   have B1:=hid b1
   clear b1 IT
   go_wp2_with fail
   go_ret
   exact ⟨ret_str R.out,B1.out⟩
  ·have R:=hid (R2.out hk hv')
   have zD2:(2:Int)≤(sd.size:Int):=by rw [zD,if_neg hv'];split <;> omega
   have zD3:(sd.size:Int)≤3:=by rw [zD,if_neg hv'];split <;> omega
   clear R1 R2 R3 R4 hv hv' zD
   go_enter Tryz.func204,Tryz.ntmps204
   go_wp2_with fail
   with_reducible refine IT.out.mono ?_
   rintro e w1 ⟨rfl,b1⟩
   have B1:=hid b1
   clear b1 IT
   go_wp2_with fail
   go_ret
   exact ⟨ret_str R.out,B1.out⟩
 ·have ev:k=(v:Int):=by omega
  subst ev
  by_cases hv':v<10
  ·have R:=hid (R3.out hk hv')
   rw [if_pos hv'] at zD
   clear R1 R2 R3 R4 hv hv'
   go_enter Tryz.func204,Tryz.ntmps204
   go_wp2_with fail
   with_reducible refine IT.out.mono ?_
   rintro e w1 ⟨rfl,b1⟩
   have B1:=hid b1
   clear b1 IT
   go_wp2_with fail
   go_ret
   exact ⟨ret_str R.out,B1.out⟩
  ·have R:=hid (R4.out hk hv')
   have zD2:(2:Int)≤(sd.size:Int):=by rw [zD,if_neg hv'];split <;> omega
   have zD3:(sd.size:Int)≤3:=by rw [zD,if_neg hv'];split <;> omega
   clear R1 R2 R3 R4 hv hv' zD
   go_enter Tryz.func204,Tryz.ntmps204
   go_wp2_with fail
   with_reducible refine IT.out.mono ?_
   rintro e w1 ⟨rfl,b1⟩
   have B1:=hid b1
   clear b1 IT
   go_wp2_with fail
   go_ret
   exact ⟨ret_str R.out,B1.out⟩
end Go.Proofs.YtbdhlfklcdegdaaGreatDoor

namespace Go.Proofs.YtbdhlfklcdegdaaGreatDoor
open Go Go.RowKit Go.Deep Go.Shelf
theorem xtab10_below {w w':World} (h:Tab10 w) (k:Below w.heap.size w w'):Tab10 w':=by
 unfold Tab10 Lib.TabIs World.var? at *
 cases hg:Tryz.prog.globalNamed "internal/strconv.uint64pow10" with
 | none=>rw [hg] at h;simp at h
 | some g=>
  rw [hg] at h
  simp only [Option.bind_some] at h ⊢
  have hl:g<w.heap.size:=by
   rcases Nat.lt_or_ge g w.heap.size with c | c
   ·exact c
   ·rw [Array.getElem?_eq_none c] at h;simp at h
  rw [k.block g hl];exact h
theorem Tab10.bel {w w':World} (h:Tab10 w) (k:Below w.heap.size w w'):Tab10 w':=xtab10_below h k
theorem Po.hd_by {a b:List Int} {h:Bool} (ha:Wh.By a) (hb:Wh.By b):Wh.By (Po.hd a b h):=by
 unfold Po.hd
 split
 ·exact ha
 ·exact ha.app (Wh.By.cons (by omega) hb)
theorem Po.hd_len (a b:List Int) (h:Bool):(Po.hd a b h).length≤a.length+b.length+1:=by
 unfold Po.hd
 split
 ·omega
 ·rw [List.length_append,List.length_cons];omega
set_option maxRecDepth 100000 in
set_option maxHeartbeats 8000000 in
theorem xbody_f (V F W P d:Int) (w:World) (hT:Tab10 w) (hV:V=102∨V=70) (f0:0≤F) (f1:F≤31) (p0:-1≤P) (p1:P≤4096) (h0:0≤d) (h1:d<18446744073709551616) (hf:Ie.fnt d=true):
  Calls Tryz.prog 134 #[.agg #[.int .u8 V,.int .i64 F,.int .i64 W,.int .i64 P],.int .u64 d] w fun e w'=>e=.returned (.string (strOfNums (Po.bd V (Wh.bit F 8) P d)))∧Below w.heap.size w w':=by
 have B0:=hid (SB.new w V F W P)
 have TB:Hid (∀wk,Below w.heap.size w wk→Tab10 wk):=fun wk k=>hT.bel k
 have H8:=hid (fun W'=>xhas_any F 8 W' f0 f1 (by omega))
 obtain ⟨q0,q1⟩:=Po.pr_bd p0 p1
 have PC:Hid ((P=-1∧Po.pr P=6)∨(P≠-1∧Po.pr P=P)):=by
  unfold Po.pr
  by_cases c:P=-1
  ·exact .inl ⟨c,if_pos c⟩
  ·exact .inr ⟨c,if_neg c⟩
 have bdE:Po.bd V (Wh.bit F 8) P d=Po.hd (Fx.pA d (Po.pr P)) (Fx.pB d (Po.pr P)) (Wh.bit F 8):=by rw [Po.bd,if_pos hV,Po.bdF,Po.wrt_hd,List.append_nil]
 obtain ⟨n,hn⟩:∃n:Nat,Po.pr P=(n:Int):=⟨(Po.pr P).toNat,by omega⟩
 have FX:=hid (fun W'=>xfixed_any d n W' h0 h1 hf (by omega))
 have K:=Po.plF hf (n:=Po.pr P) q0 (by omega)
 have PT:=hid (fun W'=>xpointed_any (Fx.pA d (Po.pr P)) (Fx.pB d (Po.pr P)) (Wh.bit F 8) W' (Po.digs_by K.a) (Po.digs_by K.b) (by have:=K.la;omega) (by have:=K.lb;omega))
 rw [←hn] at FX
 rw [bdE]
 clear bdE K hn q0 q1 f0 f1 h0 h1 hf hT p0 p1
 generalize strOfNums (Po.hd (Fx.pA d (Po.pr P)) (Fx.pB d (Po.pr P)) (Wh.bit F 8))=R at *
 generalize strOfNums (Fx.pA d (Po.pr P))=sa at *
 generalize strOfNums (Fx.pB d (Po.pr P))=sb at *
 generalize Wh.bit F 8=hh at *
 generalize Po.pr P=pp at *
 rcases hV with rfl | rfl
 ·obtain ⟨c0,c1,c2,c3⟩:=B0.out.flat
  go_enter Tryz.func134,Tryz.ntmps134
  go_upto_if 20 with fail
  go_cut [5] (fun v wx=>v=.int .i64 pp∧Hid (SB w w.heap.size 102 F W P wx))
  case first=>
   rcases PC.out with ⟨hp,e6⟩ | ⟨hp,e6⟩
   ·have hp1:(P == -1)=true:=by simpa using hp
    clear hp
    go_wp2_with fail
    go_meet
    exact ⟨by rw [e6],B0⟩
   ·have hp1:(P == -1)=false:=by simpa using hp
    clear hp
    go_wp2_with fail
    go_meet
    exact ⟨by rw [e6],B0⟩
  case rest=>
  obtain ⟨h5,B1⟩:=hcut
  subst h5
  clear B0 c0 c1 c2 c3 PC
  obtain ⟨c0,c1,c2,c3⟩:=B1.out.flat
  go_wp2_with fail
  with_reducible refine (H8.out _).mono ?_
  rintro e w2 ⟨rfl,e2⟩
  rw [e2]
  clear e2 w2 H8
  go_wp2_with fail
  with_reducible refine (FX.out _).mono ?_
  rintro e w3 ⟨rfl,b3⟩
  have B3:=hid (B1.out.on b3)
  clear b3 B1 FX c0 c1 c2 c3
  go_wp2_with fail
  with_reducible refine (PT.out _).mono ?_
  rintro e w4 ⟨rfl,e4⟩
  rw [e4]
  clear e4 w4 PT
  go_wp2_with fail
  go_ret
  exact ⟨rfl,B3.out.bel⟩
 ·obtain ⟨c0,c1,c2,c3⟩:=B0.out.flat
  go_enter Tryz.func134,Tryz.ntmps134
  go_upto_if 20 with fail
  go_cut [5] (fun v wx=>v=.int .i64 pp∧Hid (SB w w.heap.size 70 F W P wx))
  case first=>
   rcases PC.out with ⟨hp,e6⟩ | ⟨hp,e6⟩
   ·have hp1:(P == -1)=true:=by simpa using hp
    clear hp
    go_wp2_with fail
    go_meet
    exact ⟨by rw [e6],B0⟩
   ·have hp1:(P == -1)=false:=by simpa using hp
    clear hp
    go_wp2_with fail
    go_meet
    exact ⟨by rw [e6],B0⟩
  case rest=>
  obtain ⟨h5,B1⟩:=hcut
  subst h5
  clear B0 c0 c1 c2 c3 PC
  obtain ⟨c0,c1,c2,c3⟩:=B1.out.flat
  go_wp2_with fail
  with_reducible refine (H8.out _).mono ?_
  rintro e w2 ⟨rfl,e2⟩
  rw [e2]
  clear e2 w2 H8
  go_wp2_with fail
  with_reducible refine (FX.out _).mono ?_
  rintro e w3 ⟨rfl,b3⟩
  have B3:=hid (B1.out.on b3)
  clear b3 B1 FX c0 c1 c2 c3
  go_wp2_with fail
  with_reducible refine (PT.out _).mono ?_
  rintro e w4 ⟨rfl,e4⟩
  rw [e4]
  clear e4 w4 PT
  go_wp2_with fail
  go_ret
  exact ⟨rfl,B3.out.bel⟩
set_option maxRecDepth 100000 in
set_option maxHeartbeats 8000000 in
theorem xbody_e (V F W P d:Int) (w:World) (hT:Tab10 w) (hV:V=101∨V=69) (f0:0≤F) (f1:F≤31) (p0:-1≤P) (p1:P≤4096) (h0:0≤d) (h1:d<18446744073709551616) (hf:Ie.fnt d=true):
  Calls Tryz.prog 134 #[.agg #[.int .u8 V,.int .i64 F,.int .i64 W,.int .i64 P],.int .u64 d] w fun e w'=>e=.returned (.string (strOfNums (Po.bd V (Wh.bit F 8) P d)))∧Below w.heap.size w w':=by
 have B0:=hid (SB.new w V F W P)
 have TB:Hid (∀wk,Below w.heap.size w wk→Tab10 wk):=fun wk k=>hT.bel k
 have H8:=hid (fun W'=>xhas_any F 8 W' f0 f1 (by omega))
 obtain ⟨q0,q1⟩:=Po.pr_bd p0 p1
 have PC:Hid ((P=-1∧Po.pr P=6)∨(P≠-1∧Po.pr P=P)):=by
  unfold Po.pr
  by_cases c:P=-1
  ·exact .inl ⟨c,if_pos c⟩
  ·exact .inr ⟨c,if_neg c⟩
 have hVn:¬(V=102∨V=70):=by omega
 have lV:(if Po.cap V=true then (69:Int) else 101)=V:=by rcases hV with rfl | rfl <;> decide
 have bdE:Po.bd V (Wh.bit F 8) P d=Po.hd ((Fx.gS d (Po.pr P+1)).take 1) ((Fx.gS d (Po.pr P+1)).drop 1) (Wh.bit F 8)++(V::Po.xd (Fx.gK d (Po.pr P+1))):=by rw [Po.bd,if_neg hVn,if_pos hV,Po.bdE,Po.wrt_hd,Po.ex,lV]
 obtain ⟨n,hn⟩:∃n:Nat,Po.pr P=(n:Int):=⟨(Po.pr P).toNat,by omega⟩
 have FG:=hid (fun W'=>xfigures_any d n W' h0 h1 hf (by omega))
 rw [←hn] at FG
 have K:=Po.fgF hf (n:=Po.pr P+1) (by omega) (by omega)
 have ln:=K.len
 have k0:=K.lo
 have k1:=K.hi
 have ya:=Po.digs_by (Po.digs_take K.s 1)
 have yb:=Po.digs_by (Po.digs_drop K.s 1)
 have la:((Fx.gS d (Po.pr P+1)).take 1).length≤10000:=by rw [List.length_take];omega
 have lb:((Fx.gS d (Po.pr P+1)).drop 1).length≤10000:=by rw [List.length_drop];omega
 have PT:=hid (fun W'=>xpointed_any ((Fx.gS d (Po.pr P+1)).take 1) ((Fx.gS d (Po.pr P+1)).drop 1) (Wh.bit F 8) W' ya yb la lb)
 have EX:=hid (fun W' (ht:Tab10 W')=>xexp_any V (Fx.gK d (Po.pr P+1)) W' ht (by omega) (by omega) (by omega) (by omega))
 have R:Hid (strOfNums (Po.hd ((Fx.gS d (Po.pr P+1)).take 1) ((Fx.gS d (Po.pr P+1)).drop 1) (Wh.bit F 8))++strOfNums (V::Po.xd (Fx.gK d (Po.pr P+1)))=strOfNums (Po.bd V (Wh.bit F 8) P d)):=by
  rw [bdE]
  exact xapp (Po.hd_by ya yb) (Wh.By.cons (by omega) (Po.xd_by _))
 have X1:=ext_head (Po.digs_by K.s) 1
 have X2:=ext_tail (Po.digs_by K.s) 1
 have sz:(strOfNums (Fx.gS d (Po.pr P+1))).size=(Fx.gS d (Po.pr P+1)).length:=strOfNums_size _
 have s1:((strOfNums (Po.hd ((Fx.gS d (Po.pr P+1)).take 1) ((Fx.gS d (Po.pr P+1)).drop 1) (Wh.bit F 8))).size:Int)≤20001:=by rw [strOfNums_size];have:=Po.hd_len ((Fx.gS d (Po.pr P+1)).take 1) ((Fx.gS d (Po.pr P+1)).drop 1) (Wh.bit F 8);omega
 have s2:((strOfNums (V::Po.xd (Fx.gK d (Po.pr P+1)))).size:Int)≤10:=by rw [strOfNums_size,List.length_cons];have:=Po.xd_len (k:=Fx.gK d (Po.pr P+1)) (by omega) (by omega);omega
 have T1:(1:Int)≤((Fx.gS d (Po.pr P+1)).length:Int):=by omega
 have T2:((Fx.gS d (Po.pr P+1)).length:Int)≤5000:=by omega
 clear bdE K hn q0 q1 f0 f1 h0 h1 hf hT p0 p1 la lb ya yb ln k0 k1 hVn lV
 generalize strOfNums (Po.bd V (Wh.bit F 8) P d)=RR at *
 generalize strOfNums (Po.hd ((Fx.gS d (Po.pr P+1)).take 1) ((Fx.gS d (Po.pr P+1)).drop 1) (Wh.bit F 8))=sh at *
 generalize strOfNums (V::Po.xd (Fx.gK d (Po.pr P+1)))=sx at *
 generalize strOfNums ((Fx.gS d (Po.pr P+1)).take 1)=sa at *
 generalize strOfNums ((Fx.gS d (Po.pr P+1)).drop 1)=sb at *
 generalize strOfNums (Fx.gS d (Po.pr P+1))=sg at *
 generalize (Fx.gS d (Po.pr P+1)).length=T at *
 generalize Fx.gK d (Po.pr P+1)=x at *
 generalize Wh.bit F 8=hh at *
 generalize Po.pr P=pp at *
 rcases hV with rfl | rfl
 ·have lit:strOfNums [101]=⟨#[101]⟩:=rfl
  rw [lit] at EX
  obtain ⟨c0,c1,c2,c3⟩:=B0.out.flat
  go_enter Tryz.func134,Tryz.ntmps134
  go_upto_if 20 with fail
  go_cut [5] (fun v wx=>v=.int .i64 pp∧Hid (SB w w.heap.size 101 F W P wx))
  case first=>
   rcases PC.out with ⟨hp,e6⟩ | ⟨hp,e6⟩
   ·have hp1:(P == -1)=true:=by simpa using hp
    clear hp
    go_wp2_with fail
    go_meet
    exact ⟨by rw [e6],B0⟩
   ·have hp1:(P == -1)=false:=by simpa using hp
    clear hp
    go_wp2_with fail
    go_meet
    exact ⟨by rw [e6],B0⟩
  case rest=>
  obtain ⟨h5,B1⟩:=hcut
  subst h5
  clear B0 c0 c1 c2 c3 PC
  obtain ⟨c0,c1,c2,c3⟩:=B1.out.flat
  go_wp2_with fail
  with_reducible refine (H8.out _).mono ?_
  rintro e w2 ⟨rfl,e2⟩
  rw [e2]
  clear e2 w2 H8
  go_wp2_with fail
  with_reducible refine (FG.out _).mono ?_
  rintro e w3 ⟨rfl,b3⟩
  have B3:=hid (B1.out.on b3)
  clear b3 B1 FG c0 c1 c2 c3
  go_upto_region 16 with fail
  have T3:=hid B3.out.drew
  go_region_with (first | (go_at_call 202;with_reducible refine (PT.out _).mono ?_;rintro e wj ⟨rfl,hw⟩;rw [hw];clear hw wj) | (go_at_call 204;with_reducible refine (EX.out _ (TB.out _ (by first | exact T3.out.bel | exact B3.out.bel))).mono ?_;rintro e wx ⟨rfl,bx⟩;have TX:=hid (below_on (by first | exact T3.out.bel | exact B3.out.bel) bx);clear bx))
  all_goals (go_wp2_with fail)
  all_goals go_ret
  all_goals first | exact ⟨ret_str R.out,TX.out⟩ | exact ⟨ret_str R.out,TX.out.drew⟩
 ·have lit:strOfNums [69]=⟨#[69]⟩:=rfl
  rw [lit] at EX
  obtain ⟨c0,c1,c2,c3⟩:=B0.out.flat
  go_enter Tryz.func134,Tryz.ntmps134
  go_upto_if 20 with fail
  go_cut [5] (fun v wx=>v=.int .i64 pp∧Hid (SB w w.heap.size 69 F W P wx))
  case first=>
   rcases PC.out with ⟨hp,e6⟩ | ⟨hp,e6⟩
   ·have hp1:(P == -1)=true:=by simpa using hp
    clear hp
    go_wp2_with fail
    go_meet
    exact ⟨by rw [e6],B0⟩
   ·have hp1:(P == -1)=false:=by simpa using hp
    clear hp
    go_wp2_with fail
    go_meet
    exact ⟨by rw [e6],B0⟩
  case rest=>
  obtain ⟨h5,B1⟩:=hcut
  subst h5
  clear B0 c0 c1 c2 c3 PC
  obtain ⟨c0,c1,c2,c3⟩:=B1.out.flat
  go_wp2_with fail
  with_reducible refine (H8.out _).mono ?_
  rintro e w2 ⟨rfl,e2⟩
  rw [e2]
  clear e2 w2 H8
  go_wp2_with fail
  with_reducible refine (FG.out _).mono ?_
  rintro e w3 ⟨rfl,b3⟩
  have B3:=hid (B1.out.on b3)
  clear b3 B1 FG c0 c1 c2 c3
  go_upto_region 16 with fail
  have T3:=hid B3.out.drew
  go_region_with (first | (go_at_call 202;with_reducible refine (PT.out _).mono ?_;rintro e wj ⟨rfl,hw⟩;rw [hw];clear hw wj) | (go_at_call 204;with_reducible refine (EX.out _ (TB.out _ (by first | exact T3.out.bel | exact B3.out.bel))).mono ?_;rintro e wx ⟨rfl,bx⟩;have TX:=hid (below_on (by first | exact T3.out.bel | exact B3.out.bel) bx);clear bx))
  all_goals (go_wp2_with fail)
  all_goals go_ret
  all_goals first | exact ⟨ret_str R.out,TX.out⟩ | exact ⟨ret_str R.out,TX.out.drew⟩
set_option maxRecDepth 100000 in
set_option maxHeartbeats 8000000 in
theorem xbody_g (V F W P d:Int) (w:World) (hT:Tab10 w) (hV:V=103∨V=71) (f0:0≤F) (f1:F≤31) (p0:-1≤P) (p1:P≤4096) (h0:0≤d) (h1:d<18446744073709551616) (hf:Ie.fnt d=true):
  Calls Tryz.prog 134 #[.agg #[.int .u8 V,.int .i64 F,.int .i64 W,.int .i64 P],.int .u64 d] w fun e w'=>e=.returned (.string (strOfNums (Po.bd V (Wh.bit F 8) P d)))∧Below w.heap.size w w':=by
 have B0:=hid (SB.new w V F W P)
 have TB:Hid (∀wk,Below w.heap.size w wk→Tab10 wk):=fun wk k=>hT.bel k
 have H8:=hid (fun W'=>xhas_any F 8 W' f0 f1 (by omega))
 obtain ⟨q0,q1⟩:=Po.pr_bd p0 p1
 have PC:Hid ((P=-1∧Po.pr P=6)∨(P≠-1∧Po.pr P=P)):=by
  unfold Po.pr
  by_cases c:P=-1
  ·exact .inl ⟨c,if_pos c⟩
  ·exact .inr ⟨c,if_neg c⟩
 have hVn:¬(V=102∨V=70):=by omega
 have hVm:¬(V=101∨V=69):=by omega
 have bdE:Po.bd V (Wh.bit F 8) P d=Po.bdG V (Wh.bit F 8) d (max (Po.pr P) 1):=by rw [Po.bd,if_neg hVn,if_neg hVm]
 obtain ⟨q,hq⟩:∃q,max (Po.pr P) 1=q:=⟨_,rfl⟩
 rw [hq] at bdE
 have PD:Hid ((Po.pr P=0∧q=1)∨(Po.pr P≠0∧q=Po.pr P)):=by show (Po.pr P=0∧q=1)∨(Po.pr P≠0∧q=Po.pr P);omega
 have r0:1≤q:=by omega
 have r1:q≤4096:=by omega
 obtain ⟨n,hn⟩:∃n:Nat,q - 1=(n:Int):=⟨(q - 1).toNat,by omega⟩
 have FG:=hid (fun W'=>xfigures_any d n W' h0 h1 hf (by omega))
 rw [←hn,show q - 1+1=q by omega] at FG
 have K:=Po.fgF hf (n:=q) r0 (by omega)
 have ln:=K.len
 have k0:=K.lo
 have k1:=K.hi
 have ya:=Po.digs_by (Po.digs_take K.s 1)
 have la:((Fx.gS d q).take 1).length≤10000:=by rw [List.length_take];omega
 have ld:((Fx.gS d q).drop 1).length≤5000:=by rw [List.length_drop];omega
 have L:∃l:Int,(if Po.cap V=true then (69:Int) else 101)=l∧(V=103→l=101)∧(V=71→l=69)∧0≤l∧l<256:=by rcases hV with rfl | rfl;exact ⟨101,by decide,fun _=>rfl,fun c=>by omega,by omega,by omega⟩;exact ⟨69,by decide,fun c=>by omega,fun _=>rfl,by omega,by omega⟩
 obtain ⟨l,hl,hl1,hl2,l0,l1⟩:=L
 have ST:=hid (fun W'=>xstripped_any ((Fx.gS d q).drop 1) W' (Po.digs_by (Po.digs_drop K.s 1)) (by omega))
 have EX:=hid (fun W' (ht:Tab10 W')=>xexp_any l (Fx.gK d q) W' ht l0 l1 (by omega) (by omega))
 have X1:=ext_head (Po.digs_by K.s) 1
 have X2:=ext_tail (Po.digs_by K.s) 1
 have sz:(strOfNums (Fx.gS d q)).size=(Fx.gS d q).length:=strOfNums_size _
 have s2:((strOfNums (l::Po.xd (Fx.gK d q))).size:Int)≤10:=by rw [strOfNums_size,List.length_cons];have:=Po.xd_len (k:=Fx.gK d q) (by omega) (by omega);omega
 have T1:(1:Int)≤((Fx.gS d q).length:Int):=by omega
 have T2:((Fx.gS d q).length:Int)≤5000:=by omega
 by_cases hx:-4≤Fx.gK d q∧Fx.gK d q<q
 ·obtain ⟨n2,hn2⟩:∃n2:Nat,q - 1 - Fx.gK d q=(n2:Int):=⟨(q - 1 - Fx.gK d q).toNat,by omega⟩
  have J:=Po.plF hf (n:=q - 1 - Fx.gK d q) (by omega) (by omega)
  have ja:=J.la
  have jb:=J.lb
  have FX:=hid (fun W'=>xfixed_any d n2 W' h0 h1 hf (by omega))
  rw [←hn2] at FX
  have SB2:=hid (fun W'=>xstripped_any (Fx.pB d (q - 1 - Fx.gK d q)) W' (Po.digs_by J.b) (by omega))
  have PT:=hid (fun W'=>xpointed_any (Fx.pA d (q - 1 - Fx.gK d q)) (Po.st (Wh.bit F 8) (Fx.pB d (q - 1 - Fx.gK d q))) (Wh.bit F 8) W' (Po.digs_by J.a) (Po.digs_by (Po.digs_st _ J.b)) (by omega) (by have:=Po.st_len (Wh.bit F 8) (Fx.pB d (q - 1 - Fx.gK d q));omega))
  have R:Hid (Po.hd (Fx.pA d (q - 1 - Fx.gK d q)) (Po.st (Wh.bit F 8) (Fx.pB d (q - 1 - Fx.gK d q))) (Wh.bit F 8)=Po.bd V (Wh.bit F 8) P d):=by
   show _=_
   rw [bdE,Po.bdG,if_pos hx,Po.wrt_hd,List.append_nil]
  rw [R.out] at PT
  obtain ⟨hx1,hx2⟩:=hx
  clear bdE K J hq hn hn2 q0 q1 f0 f1 h0 h1 hf hT p0 p1 la ya hVn hVm hl hl1 hl2 l0 l1 ST EX R ja jb ld s2 X1 X2 sz T1 T2
  generalize strOfNums (Po.bd V (Wh.bit F 8) P d)=RR at *
  generalize strOfNums (Fx.gS d q)=sg at *
  generalize Fx.gK d q=x at *
  generalize Fx.pA d (q - 1 - x)=a at *
  generalize Fx.pB d (q - 1 - x)=b at *
  generalize Wh.bit F 8=hh at *
  generalize Po.pr P=pp at *
  cases hh with
  | true=>
   rw [show Po.st true b=b from rfl] at PT
   clear SB2
   generalize strOfNums a=sa at *
   generalize strOfNums b=sb at *
   rcases hV with rfl | rfl
   ·obtain ⟨c0,c1,c2,c3⟩:=B0.out.flat
    go_enter Tryz.func134,Tryz.ntmps134
    go_upto_if 20 with fail
    go_cut [5] (fun v wx=>v=.int .i64 pp∧Hid (SB w w.heap.size 103 F W P wx))
    case first=>
     rcases PC.out with ⟨hp,e6⟩ | ⟨hp,e6⟩
     ·have hp1:(P == -1)=true:=by simpa using hp
      clear hp
      go_wp2_with fail
      go_meet
      exact ⟨by rw [e6],B0⟩
     ·have hp1:(P == -1)=false:=by simpa using hp
      clear hp
      go_wp2_with fail
      go_meet
      exact ⟨by rw [e6],B0⟩
    case rest=>
    obtain ⟨h5,B1⟩:=hcut
    subst h5
    clear B0 c0 c1 c2 c3 PC
    obtain ⟨c0,c1,c2,c3⟩:=B1.out.flat
    go_wp2_with fail
    with_reducible refine (H8.out _).mono ?_
    rintro e w2 ⟨rfl,e2⟩
    rw [e2]
    clear e2 w2 H8
    go_upto_if 67 with fail
    go_cut [5] (fun v wx=>v=.int .i64 q∧Hid (SB w w.heap.size 103 F W P wx))
    case first=>
     rcases PD.out with ⟨hp,e6⟩ | ⟨hp,e6⟩
     ·have hp1:(pp == 0)=true:=by simpa using hp
      clear hp
      go_wp2_with fail
      go_meet
      exact ⟨by rw [e6],B1⟩
     ·have hp1:(pp == 0)=false:=by simpa using hp
      clear hp
      go_wp2_with fail
      go_meet
      exact ⟨by rw [e6],B1⟩
    case rest=>
    obtain ⟨h5,B2⟩:=hcut
    subst h5
    clear B1 c0 c1 c2 c3 PD
    obtain ⟨c0,c1,c2,c3⟩:=B2.out.flat
    go_wp2_with fail
    with_reducible refine (FG.out _).mono ?_
    rintro e w3 ⟨rfl,b3⟩
    have B3:=hid (B2.out.on b3)
    clear b3 B2 FG c0 c1 c2 c3
    go_wp2_with fail
    with_reducible refine (FX.out _).mono ?_
    rintro e w4 ⟨rfl,b4⟩
    have B4:=hid (B3.out.on b4)
    clear b4 B3 FX
    go_wp2_with fail
    with_reducible refine (PT.out _).mono ?_
    rintro e w6 ⟨rfl,e6⟩
    rw [e6]
    clear e6 w6 PT
    go_wp2_with fail
    go_ret
    exact ⟨rfl,B4.out.bel⟩
   ·obtain ⟨c0,c1,c2,c3⟩:=B0.out.flat
    go_enter Tryz.func134,Tryz.ntmps134
    go_upto_if 20 with fail
    go_cut [5] (fun v wx=>v=.int .i64 pp∧Hid (SB w w.heap.size 71 F W P wx))
    case first=>
     rcases PC.out with ⟨hp,e6⟩ | ⟨hp,e6⟩
     ·have hp1:(P == -1)=true:=by simpa using hp
      clear hp
      go_wp2_with fail
      go_meet
      exact ⟨by rw [e6],B0⟩
     ·have hp1:(P == -1)=false:=by simpa using hp
      clear hp
      go_wp2_with fail
      go_meet
      exact ⟨by rw [e6],B0⟩
    case rest=>
    obtain ⟨h5,B1⟩:=hcut
    subst h5
    clear B0 c0 c1 c2 c3 PC
    obtain ⟨c0,c1,c2,c3⟩:=B1.out.flat
    go_wp2_with fail
    with_reducible refine (H8.out _).mono ?_
    rintro e w2 ⟨rfl,e2⟩
    rw [e2]
    clear e2 w2 H8
    go_upto_if 67 with fail
    go_cut [5] (fun v wx=>v=.int .i64 q∧Hid (SB w w.heap.size 71 F W P wx))
    case first=>
     rcases PD.out with ⟨hp,e6⟩ | ⟨hp,e6⟩
     ·have hp1:(pp == 0)=true:=by simpa using hp
      clear hp
      go_wp2_with fail
      go_meet
      exact ⟨by rw [e6],B1⟩
     ·have hp1:(pp == 0)=false:=by simpa using hp
      clear hp
      go_wp2_with fail
      go_meet
      exact ⟨by rw [e6],B1⟩
    case rest=>
    obtain ⟨h5,B2⟩:=hcut
    subst h5
    clear B1 c0 c1 c2 c3 PD
    obtain ⟨c0,c1,c2,c3⟩:=B2.out.flat
    go_wp2_with fail
    with_reducible refine (FG.out _).mono ?_
    rintro e w3 ⟨rfl,b3⟩
    have B3:=hid (B2.out.on b3)
    clear b3 B2 FG c0 c1 c2 c3
    go_wp2_with fail
    with_reducible refine (FX.out _).mono ?_
    rintro e w4 ⟨rfl,b4⟩
    have B4:=hid (B3.out.on b4)
    clear b4 B3 FX
    go_wp2_with fail
    with_reducible refine (PT.out _).mono ?_
    rintro e w6 ⟨rfl,e6⟩
    rw [e6]
    clear e6 w6 PT
    go_wp2_with fail
    go_ret
    exact ⟨rfl,B4.out.bel⟩
  | false=>
   rw [show Po.st false b=Po.sp b from rfl] at PT
   generalize strOfNums a=sa at *
   generalize strOfNums (Po.sp b)=sp at *
   generalize strOfNums b=sb at *
   rcases hV with rfl | rfl
   ·obtain ⟨c0,c1,c2,c3⟩:=B0.out.flat
    go_enter Tryz.func134,Tryz.ntmps134
    go_upto_if 20 with fail
    go_cut [5] (fun v wx=>v=.int .i64 pp∧Hid (SB w w.heap.size 103 F W P wx))
    case first=>
     rcases PC.out with ⟨hp,e6⟩ | ⟨hp,e6⟩
     ·have hp1:(P == -1)=true:=by simpa using hp
      clear hp
      go_wp2_with fail
      go_meet
      exact ⟨by rw [e6],B0⟩
     ·have hp1:(P == -1)=false:=by simpa using hp
      clear hp
      go_wp2_with fail
      go_meet
      exact ⟨by rw [e6],B0⟩
    case rest=>
    obtain ⟨h5,B1⟩:=hcut
    subst h5
    clear B0 c0 c1 c2 c3 PC
    obtain ⟨c0,c1,c2,c3⟩:=B1.out.flat
    go_wp2_with fail
    with_reducible refine (H8.out _).mono ?_
    rintro e w2 ⟨rfl,e2⟩
    rw [e2]
    clear e2 w2 H8
    go_upto_if 67 with fail
    go_cut [5] (fun v wx=>v=.int .i64 q∧Hid (SB w w.heap.size 103 F W P wx))
    case first=>
     rcases PD.out with ⟨hp,e6⟩ | ⟨hp,e6⟩
     ·have hp1:(pp == 0)=true:=by simpa using hp
      clear hp
      go_wp2_with fail
      go_meet
      exact ⟨by rw [e6],B1⟩
     ·have hp1:(pp == 0)=false:=by simpa using hp
      clear hp
      go_wp2_with fail
      go_meet
      exact ⟨by rw [e6],B1⟩
    case rest=>
    obtain ⟨h5,B2⟩:=hcut
    subst h5
    clear B1 c0 c1 c2 c3 PD
    obtain ⟨c0,c1,c2,c3⟩:=B2.out.flat
    go_wp2_with fail
    with_reducible refine (FG.out _).mono ?_
    rintro e w3 ⟨rfl,b3⟩
    have B3:=hid (B2.out.on b3)
    clear b3 B2 FG c0 c1 c2 c3
    go_wp2_with fail
    with_reducible refine (FX.out _).mono ?_
    rintro e w4 ⟨rfl,b4⟩
    have B4:=hid (B3.out.on b4)
    clear b4 B3 FX
    go_wp2_with fail
    with_reducible refine (SB2.out _).mono ?_
    rintro e w5 ⟨rfl,e5⟩
    rw [e5]
    clear e5 w5 SB2
    go_wp2_with fail
    with_reducible refine (PT.out _).mono ?_
    rintro e w6 ⟨rfl,e6⟩
    rw [e6]
    clear e6 w6 PT
    go_wp2_with fail
    go_ret
    exact ⟨rfl,B4.out.bel⟩
   ·obtain ⟨c0,c1,c2,c3⟩:=B0.out.flat
    go_enter Tryz.func134,Tryz.ntmps134
    go_upto_if 20 with fail
    go_cut [5] (fun v wx=>v=.int .i64 pp∧Hid (SB w w.heap.size 71 F W P wx))
    case first=>
     rcases PC.out with ⟨hp,e6⟩ | ⟨hp,e6⟩
     ·have hp1:(P == -1)=true:=by simpa using hp
      clear hp
      go_wp2_with fail
      go_meet
      exact ⟨by rw [e6],B0⟩
     ·have hp1:(P == -1)=false:=by simpa using hp
      clear hp
      go_wp2_with fail
      go_meet
      exact ⟨by rw [e6],B0⟩
    case rest=>
    obtain ⟨h5,B1⟩:=hcut
    subst h5
    clear B0 c0 c1 c2 c3 PC
    obtain ⟨c0,c1,c2,c3⟩:=B1.out.flat
    go_wp2_with fail
    with_reducible refine (H8.out _).mono ?_
    rintro e w2 ⟨rfl,e2⟩
    rw [e2]
    clear e2 w2 H8
    go_upto_if 67 with fail
    go_cut [5] (fun v wx=>v=.int .i64 q∧Hid (SB w w.heap.size 71 F W P wx))
    case first=>
     rcases PD.out with ⟨hp,e6⟩ | ⟨hp,e6⟩
     ·have hp1:(pp == 0)=true:=by simpa using hp
      clear hp
      go_wp2_with fail
      go_meet
      exact ⟨by rw [e6],B1⟩
     ·have hp1:(pp == 0)=false:=by simpa using hp
      clear hp
      go_wp2_with fail
      go_meet
      exact ⟨by rw [e6],B1⟩
    case rest=>
    obtain ⟨h5,B2⟩:=hcut
    subst h5
    clear B1 c0 c1 c2 c3 PD
    obtain ⟨c0,c1,c2,c3⟩:=B2.out.flat
    go_wp2_with fail
    with_reducible refine (FG.out _).mono ?_
    rintro e w3 ⟨rfl,b3⟩
    have B3:=hid (B2.out.on b3)
    clear b3 B2 FG c0 c1 c2 c3
    go_wp2_with fail
    with_reducible refine (FX.out _).mono ?_
    rintro e w4 ⟨rfl,b4⟩
    have B4:=hid (B3.out.on b4)
    clear b4 B3 FX
    go_wp2_with fail
    with_reducible refine (SB2.out _).mono ?_
    rintro e w5 ⟨rfl,e5⟩
    rw [e5]
    clear e5 w5 SB2
    go_wp2_with fail
    with_reducible refine (PT.out _).mono ?_
    rintro e w6 ⟨rfl,e6⟩
    rw [e6]
    clear e6 w6 PT
    go_wp2_with fail
    go_ret
    exact ⟨rfl,B4.out.bel⟩
 ·have PT:=hid (fun W'=>xpointed_any ((Fx.gS d q).take 1) (Po.st (Wh.bit F 8) ((Fx.gS d q).drop 1)) (Wh.bit F 8) W' ya (Po.digs_by (Po.digs_st _ (Po.digs_drop K.s 1))) la (by have:=Po.st_len (Wh.bit F 8) ((Fx.gS d q).drop 1);omega))
  have R:Hid (strOfNums (Po.hd ((Fx.gS d q).take 1) (Po.st (Wh.bit F 8) ((Fx.gS d q).drop 1)) (Wh.bit F 8))++strOfNums (l::Po.xd (Fx.gK d q))=strOfNums (Po.bd V (Wh.bit F 8) P d)):=by
   rw [bdE,Po.bdG,if_neg hx,Po.wrt_hd,Po.ex,hl]
   exact xapp (Po.hd_by ya (Po.digs_by (Po.digs_st _ (Po.digs_drop K.s 1)))) (Wh.By.cons ⟨l0,l1⟩ (Po.xd_by _))
  have s1:((strOfNums (Po.hd ((Fx.gS d q).take 1) (Po.st (Wh.bit F 8) ((Fx.gS d q).drop 1)) (Wh.bit F 8))).size:Int)≤20001:=by rw [strOfNums_size];have:=Po.hd_len ((Fx.gS d q).take 1) (Po.st (Wh.bit F 8) ((Fx.gS d q).drop 1)) (Wh.bit F 8);have:=Po.st_len (Wh.bit F 8) ((Fx.gS d q).drop 1);omega
  clear bdE K hq hn q0 q1 f0 f1 h0 h1 hf hT p0 p1 la ya hVn hVm hl l0 l1 ld
  generalize strOfNums (Po.bd V (Wh.bit F 8) P d)=RR at *
  generalize strOfNums (Po.hd ((Fx.gS d q).take 1) (Po.st (Wh.bit F 8) ((Fx.gS d q).drop 1)) (Wh.bit F 8))=sh at *
  generalize strOfNums (l::Po.xd (Fx.gK d q))=sx at *
  generalize strOfNums ((Fx.gS d q).take 1)=sa at *
  generalize strOfNums (Fx.gS d q)=sg at *
  generalize (Fx.gS d q).length=T at *
  generalize (Fx.gS d q).drop 1=b at *
  generalize Fx.gK d q=x at *
  generalize Wh.bit F 8=hh at *
  generalize Po.pr P=pp at *
  have hxd:(¬-4≤x)∨(-4≤x∧¬x<q):=by omega
  clear hx
  cases hh with
  | true=>
   rw [show Po.st true b=b from rfl] at PT
   clear ST
   generalize strOfNums b=sb at *
   rcases hV with rfl | rfl
   ·have hl:=hl1 rfl
    subst hl
    have lit:strOfNums [101]=⟨#[101]⟩:=rfl
    rw [lit] at EX
    clear lit hl1 hl2
    rcases hxd with hx1 | ⟨hx1,hx2⟩
    ·have hxq:decide (-4≤x)=false:=decide_eq_false hx1
     obtain ⟨c0,c1,c2,c3⟩:=B0.out.flat
     go_enter Tryz.func134,Tryz.ntmps134
     go_upto_if 20 with fail
     go_cut [5] (fun v wx=>v=.int .i64 pp∧Hid (SB w w.heap.size 103 F W P wx))
     case first=>
      rcases PC.out with ⟨hp,e6⟩ | ⟨hp,e6⟩
      ·have hp1:(P == -1)=true:=by simpa using hp
       clear hp
       go_wp2_with fail
       go_meet
       exact ⟨by rw [e6],B0⟩
      ·have hp1:(P == -1)=false:=by simpa using hp
       clear hp
       go_wp2_with fail
       go_meet
       exact ⟨by rw [e6],B0⟩
     case rest=>
     obtain ⟨h5,B1⟩:=hcut
     subst h5
     clear B0 c0 c1 c2 c3 PC
     obtain ⟨c0,c1,c2,c3⟩:=B1.out.flat
     go_wp2_with fail
     with_reducible refine (H8.out _).mono ?_
     rintro e w2 ⟨rfl,e2⟩
     rw [e2]
     clear e2 w2 H8
     go_upto_if 67 with fail
     go_cut [5] (fun v wx=>v=.int .i64 q∧Hid (SB w w.heap.size 103 F W P wx))
     case first=>
      rcases PD.out with ⟨hp,e6⟩ | ⟨hp,e6⟩
      ·have hp1:(pp == 0)=true:=by simpa using hp
       clear hp
       go_wp2_with fail
       go_meet
       exact ⟨by rw [e6],B1⟩
      ·have hp1:(pp == 0)=false:=by simpa using hp
       clear hp
       go_wp2_with fail
       go_meet
       exact ⟨by rw [e6],B1⟩
     case rest=>
     obtain ⟨h5,B2⟩:=hcut
     subst h5
     clear B1 c0 c1 c2 c3 PD
     obtain ⟨c0,c1,c2,c3⟩:=B2.out.flat
     go_wp2_with fail
     with_reducible refine (FG.out _).mono ?_
     rintro e w3 ⟨rfl,b3⟩
     have B3:=hid (B2.out.on b3)
     clear b3 B2 FG c0 c1 c2 c3
     go_wp2_with fail
     with_reducible refine (PT.out _).mono ?_
     rintro e w6 ⟨rfl,e6⟩
     rw [e6]
     clear e6 w6 PT
     go_wp2_with fail
     with_reducible refine (EX.out _ (TB.out _ B3.out.bel)).mono ?_
     rintro e w7 ⟨rfl,b7⟩
     have B7:=hid (B3.out.on b7)
     clear b7 B3 EX
     go_wp2_with fail
     go_ret
     exact ⟨ret_str R.out,B7.out.bel⟩
    ·obtain ⟨c0,c1,c2,c3⟩:=B0.out.flat
     go_enter Tryz.func134,Tryz.ntmps134
     go_upto_if 20 with fail
     go_cut [5] (fun v wx=>v=.int .i64 pp∧Hid (SB w w.heap.size 103 F W P wx))
     case first=>
      rcases PC.out with ⟨hp,e6⟩ | ⟨hp,e6⟩
      ·have hp1:(P == -1)=true:=by simpa using hp
       clear hp
       go_wp2_with fail
       go_meet
       exact ⟨by rw [e6],B0⟩
      ·have hp1:(P == -1)=false:=by simpa using hp
       clear hp
       go_wp2_with fail
       go_meet
       exact ⟨by rw [e6],B0⟩
     case rest=>
     obtain ⟨h5,B1⟩:=hcut
     subst h5
     clear B0 c0 c1 c2 c3 PC
     obtain ⟨c0,c1,c2,c3⟩:=B1.out.flat
     go_wp2_with fail
     with_reducible refine (H8.out _).mono ?_
     rintro e w2 ⟨rfl,e2⟩
     rw [e2]
     clear e2 w2 H8
     go_upto_if 67 with fail
     go_cut [5] (fun v wx=>v=.int .i64 q∧Hid (SB w w.heap.size 103 F W P wx))
     case first=>
      rcases PD.out with ⟨hp,e6⟩ | ⟨hp,e6⟩
      ·have hp1:(pp == 0)=true:=by simpa using hp
       clear hp
       go_wp2_with fail
       go_meet
       exact ⟨by rw [e6],B1⟩
      ·have hp1:(pp == 0)=false:=by simpa using hp
       clear hp
       go_wp2_with fail
       go_meet
       exact ⟨by rw [e6],B1⟩
     case rest=>
     obtain ⟨h5,B2⟩:=hcut
     subst h5
     clear B1 c0 c1 c2 c3 PD
     obtain ⟨c0,c1,c2,c3⟩:=B2.out.flat
     go_wp2_with fail
     with_reducible refine (FG.out _).mono ?_
     rintro e w3 ⟨rfl,b3⟩
     have B3:=hid (B2.out.on b3)
     clear b3 B2 FG c0 c1 c2 c3
     go_wp2_with fail
     with_reducible refine (PT.out _).mono ?_
     rintro e w6 ⟨rfl,e6⟩
     rw [e6]
     clear e6 w6 PT
     go_wp2_with fail
     with_reducible refine (EX.out _ (TB.out _ B3.out.bel)).mono ?_
     rintro e w7 ⟨rfl,b7⟩
     have B7:=hid (B3.out.on b7)
     clear b7 B3 EX
     go_wp2_with fail
     go_ret
     exact ⟨ret_str R.out,B7.out.bel⟩
   ·have hl:=hl2 rfl
    subst hl
    have lit:strOfNums [69]=⟨#[69]⟩:=rfl
    rw [lit] at EX
    clear lit hl1 hl2
    rcases hxd with hx1 | ⟨hx1,hx2⟩
    ·have hxq:decide (-4≤x)=false:=decide_eq_false hx1
     obtain ⟨c0,c1,c2,c3⟩:=B0.out.flat
     go_enter Tryz.func134,Tryz.ntmps134
     go_upto_if 20 with fail
     go_cut [5] (fun v wx=>v=.int .i64 pp∧Hid (SB w w.heap.size 71 F W P wx))
     case first=>
      rcases PC.out with ⟨hp,e6⟩ | ⟨hp,e6⟩
      ·have hp1:(P == -1)=true:=by simpa using hp
       clear hp
       go_wp2_with fail
       go_meet
       exact ⟨by rw [e6],B0⟩
      ·have hp1:(P == -1)=false:=by simpa using hp
       clear hp
       go_wp2_with fail
       go_meet
       exact ⟨by rw [e6],B0⟩
     case rest=>
     obtain ⟨h5,B1⟩:=hcut
     subst h5
     clear B0 c0 c1 c2 c3 PC
     obtain ⟨c0,c1,c2,c3⟩:=B1.out.flat
     go_wp2_with fail
     with_reducible refine (H8.out _).mono ?_
     rintro e w2 ⟨rfl,e2⟩
     rw [e2]
     clear e2 w2 H8
     go_upto_if 67 with fail
     go_cut [5] (fun v wx=>v=.int .i64 q∧Hid (SB w w.heap.size 71 F W P wx))
     case first=>
      rcases PD.out with ⟨hp,e6⟩ | ⟨hp,e6⟩
      ·have hp1:(pp == 0)=true:=by simpa using hp
       clear hp
       go_wp2_with fail
       go_meet
       exact ⟨by rw [e6],B1⟩
      ·have hp1:(pp == 0)=false:=by simpa using hp
       clear hp
       go_wp2_with fail
       go_meet
       exact ⟨by rw [e6],B1⟩
     case rest=>
     obtain ⟨h5,B2⟩:=hcut
     subst h5
     clear B1 c0 c1 c2 c3 PD
     obtain ⟨c0,c1,c2,c3⟩:=B2.out.flat
     go_wp2_with fail
     with_reducible refine (FG.out _).mono ?_
     rintro e w3 ⟨rfl,b3⟩
     have B3:=hid (B2.out.on b3)
     clear b3 B2 FG c0 c1 c2 c3
     go_wp2_with fail
     with_reducible refine (PT.out _).mono ?_
     rintro e w6 ⟨rfl,e6⟩
     rw [e6]
     clear e6 w6 PT
     go_wp2_with fail
     with_reducible refine (EX.out _ (TB.out _ B3.out.bel)).mono ?_
     rintro e w7 ⟨rfl,b7⟩
     have B7:=hid (B3.out.on b7)
     clear b7 B3 EX
     go_wp2_with fail
     go_ret
     exact ⟨ret_str R.out,B7.out.bel⟩
    ·obtain ⟨c0,c1,c2,c3⟩:=B0.out.flat
     go_enter Tryz.func134,Tryz.ntmps134
     go_upto_if 20 with fail
     go_cut [5] (fun v wx=>v=.int .i64 pp∧Hid (SB w w.heap.size 71 F W P wx))
     case first=>
      rcases PC.out with ⟨hp,e6⟩ | ⟨hp,e6⟩
      ·have hp1:(P == -1)=true:=by simpa using hp
       clear hp
       go_wp2_with fail
       go_meet
       exact ⟨by rw [e6],B0⟩
      ·have hp1:(P == -1)=false:=by simpa using hp
       clear hp
       go_wp2_with fail
       go_meet
       exact ⟨by rw [e6],B0⟩
     case rest=>
     obtain ⟨h5,B1⟩:=hcut
     subst h5
     clear B0 c0 c1 c2 c3 PC
     obtain ⟨c0,c1,c2,c3⟩:=B1.out.flat
     go_wp2_with fail
     with_reducible refine (H8.out _).mono ?_
     rintro e w2 ⟨rfl,e2⟩
     rw [e2]
     clear e2 w2 H8
     go_upto_if 67 with fail
     go_cut [5] (fun v wx=>v=.int .i64 q∧Hid (SB w w.heap.size 71 F W P wx))
     case first=>
      rcases PD.out with ⟨hp,e6⟩ | ⟨hp,e6⟩
      ·have hp1:(pp == 0)=true:=by simpa using hp
       clear hp
       go_wp2_with fail
       go_meet
       exact ⟨by rw [e6],B1⟩
      ·have hp1:(pp == 0)=false:=by simpa using hp
       clear hp
       go_wp2_with fail
       go_meet
       exact ⟨by rw [e6],B1⟩
     case rest=>
     obtain ⟨h5,B2⟩:=hcut
     subst h5
     clear B1 c0 c1 c2 c3 PD
     obtain ⟨c0,c1,c2,c3⟩:=B2.out.flat
     go_wp2_with fail
     with_reducible refine (FG.out _).mono ?_
     rintro e w3 ⟨rfl,b3⟩
     have B3:=hid (B2.out.on b3)
     clear b3 B2 FG c0 c1 c2 c3
     go_wp2_with fail
     with_reducible refine (PT.out _).mono ?_
     rintro e w6 ⟨rfl,e6⟩
     rw [e6]
     clear e6 w6 PT
     go_wp2_with fail
     with_reducible refine (EX.out _ (TB.out _ B3.out.bel)).mono ?_
     rintro e w7 ⟨rfl,b7⟩
     have B7:=hid (B3.out.on b7)
     clear b7 B3 EX
     go_wp2_with fail
     go_ret
     exact ⟨ret_str R.out,B7.out.bel⟩
  | false=>
   rw [show Po.st false b=Po.sp b from rfl] at PT
   generalize strOfNums (Po.sp b)=sp at *
   generalize strOfNums b=sb at *
   rcases hV with rfl | rfl
   ·have hl:=hl1 rfl
    subst hl
    have lit:strOfNums [101]=⟨#[101]⟩:=rfl
    rw [lit] at EX
    clear lit hl1 hl2
    rcases hxd with hx1 | ⟨hx1,hx2⟩
    ·have hxq:decide (-4≤x)=false:=decide_eq_false hx1
     obtain ⟨c0,c1,c2,c3⟩:=B0.out.flat
     go_enter Tryz.func134,Tryz.ntmps134
     go_upto_if 20 with fail
     go_cut [5] (fun v wx=>v=.int .i64 pp∧Hid (SB w w.heap.size 103 F W P wx))
     case first=>
      rcases PC.out with ⟨hp,e6⟩ | ⟨hp,e6⟩
      ·have hp1:(P == -1)=true:=by simpa using hp
       clear hp
       go_wp2_with fail
       go_meet
       exact ⟨by rw [e6],B0⟩
      ·have hp1:(P == -1)=false:=by simpa using hp
       clear hp
       go_wp2_with fail
       go_meet
       exact ⟨by rw [e6],B0⟩
     case rest=>
     obtain ⟨h5,B1⟩:=hcut
     subst h5
     clear B0 c0 c1 c2 c3 PC
     obtain ⟨c0,c1,c2,c3⟩:=B1.out.flat
     go_wp2_with fail
     with_reducible refine (H8.out _).mono ?_
     rintro e w2 ⟨rfl,e2⟩
     rw [e2]
     clear e2 w2 H8
     go_upto_if 67 with fail
     go_cut [5] (fun v wx=>v=.int .i64 q∧Hid (SB w w.heap.size 103 F W P wx))
     case first=>
      rcases PD.out with ⟨hp,e6⟩ | ⟨hp,e6⟩
      ·have hp1:(pp == 0)=true:=by simpa using hp
       clear hp
       go_wp2_with fail
       go_meet
       exact ⟨by rw [e6],B1⟩
      ·have hp1:(pp == 0)=false:=by simpa using hp
       clear hp
       go_wp2_with fail
       go_meet
       exact ⟨by rw [e6],B1⟩
     case rest=>
     obtain ⟨h5,B2⟩:=hcut
     subst h5
     clear B1 c0 c1 c2 c3 PD
     obtain ⟨c0,c1,c2,c3⟩:=B2.out.flat
     go_wp2_with fail
     with_reducible refine (FG.out _).mono ?_
     rintro e w3 ⟨rfl,b3⟩
     have B3:=hid (B2.out.on b3)
     clear b3 B2 FG c0 c1 c2 c3
     go_wp2_with fail
     with_reducible refine (ST.out _).mono ?_
     rintro e w5 ⟨rfl,e5⟩
     rw [e5]
     clear e5 w5 ST
     go_wp2_with fail
     with_reducible refine (PT.out _).mono ?_
     rintro e w6 ⟨rfl,e6⟩
     rw [e6]
     clear e6 w6 PT
     go_wp2_with fail
     with_reducible refine (EX.out _ (TB.out _ B3.out.bel)).mono ?_
     rintro e w7 ⟨rfl,b7⟩
     have B7:=hid (B3.out.on b7)
     clear b7 B3 EX
     go_wp2_with fail
     go_ret
     exact ⟨ret_str R.out,B7.out.bel⟩
    ·obtain ⟨c0,c1,c2,c3⟩:=B0.out.flat
     go_enter Tryz.func134,Tryz.ntmps134
     go_upto_if 20 with fail
     go_cut [5] (fun v wx=>v=.int .i64 pp∧Hid (SB w w.heap.size 103 F W P wx))
     case first=>
      rcases PC.out with ⟨hp,e6⟩ | ⟨hp,e6⟩
      ·have hp1:(P == -1)=true:=by simpa using hp
       clear hp
       go_wp2_with fail
       go_meet
       exact ⟨by rw [e6],B0⟩
      ·have hp1:(P == -1)=false:=by simpa using hp
       clear hp
       go_wp2_with fail
       go_meet
       exact ⟨by rw [e6],B0⟩
     case rest=>
     obtain ⟨h5,B1⟩:=hcut
     subst h5
     clear B0 c0 c1 c2 c3 PC
     obtain ⟨c0,c1,c2,c3⟩:=B1.out.flat
     go_wp2_with fail
     with_reducible refine (H8.out _).mono ?_
     rintro e w2 ⟨rfl,e2⟩
     rw [e2]
     clear e2 w2 H8
     go_upto_if 67 with fail
     go_cut [5] (fun v wx=>v=.int .i64 q∧Hid (SB w w.heap.size 103 F W P wx))
     case first=>
      rcases PD.out with ⟨hp,e6⟩ | ⟨hp,e6⟩
      ·have hp1:(pp == 0)=true:=by simpa using hp
       clear hp
       go_wp2_with fail
       go_meet
       exact ⟨by rw [e6],B1⟩
      ·have hp1:(pp == 0)=false:=by simpa using hp
       clear hp
       go_wp2_with fail
       go_meet
       exact ⟨by rw [e6],B1⟩
     case rest=>
     obtain ⟨h5,B2⟩:=hcut
     subst h5
     clear B1 c0 c1 c2 c3 PD
     obtain ⟨c0,c1,c2,c3⟩:=B2.out.flat
     go_wp2_with fail
     with_reducible refine (FG.out _).mono ?_
     rintro e w3 ⟨rfl,b3⟩
     have B3:=hid (B2.out.on b3)
     clear b3 B2 FG c0 c1 c2 c3
     go_wp2_with fail
     with_reducible refine (ST.out _).mono ?_
     rintro e w5 ⟨rfl,e5⟩
     rw [e5]
     clear e5 w5 ST
     go_wp2_with fail
     with_reducible refine (PT.out _).mono ?_
     rintro e w6 ⟨rfl,e6⟩
     rw [e6]
     clear e6 w6 PT
     go_wp2_with fail
     with_reducible refine (EX.out _ (TB.out _ B3.out.bel)).mono ?_
     rintro e w7 ⟨rfl,b7⟩
     have B7:=hid (B3.out.on b7)
     clear b7 B3 EX
     go_wp2_with fail
     go_ret
     exact ⟨ret_str R.out,B7.out.bel⟩
   ·have hl:=hl2 rfl
    subst hl
    have lit:strOfNums [69]=⟨#[69]⟩:=rfl
    rw [lit] at EX
    clear lit hl1 hl2
    rcases hxd with hx1 | ⟨hx1,hx2⟩
    ·have hxq:decide (-4≤x)=false:=decide_eq_false hx1
     obtain ⟨c0,c1,c2,c3⟩:=B0.out.flat
     go_enter Tryz.func134,Tryz.ntmps134
     go_upto_if 20 with fail
     go_cut [5] (fun v wx=>v=.int .i64 pp∧Hid (SB w w.heap.size 71 F W P wx))
     case first=>
      rcases PC.out with ⟨hp,e6⟩ | ⟨hp,e6⟩
      ·have hp1:(P == -1)=true:=by simpa using hp
       clear hp
       go_wp2_with fail
       go_meet
       exact ⟨by rw [e6],B0⟩
      ·have hp1:(P == -1)=false:=by simpa using hp
       clear hp
       go_wp2_with fail
       go_meet
       exact ⟨by rw [e6],B0⟩
     case rest=>
     obtain ⟨h5,B1⟩:=hcut
     subst h5
     clear B0 c0 c1 c2 c3 PC
     obtain ⟨c0,c1,c2,c3⟩:=B1.out.flat
     go_wp2_with fail
     with_reducible refine (H8.out _).mono ?_
     rintro e w2 ⟨rfl,e2⟩
     rw [e2]
     clear e2 w2 H8
     go_upto_if 67 with fail
     go_cut [5] (fun v wx=>v=.int .i64 q∧Hid (SB w w.heap.size 71 F W P wx))
     case first=>
      rcases PD.out with ⟨hp,e6⟩ | ⟨hp,e6⟩
      ·have hp1:(pp == 0)=true:=by simpa using hp
       clear hp
       go_wp2_with fail
       go_meet
       exact ⟨by rw [e6],B1⟩
      ·have hp1:(pp == 0)=false:=by simpa using hp
       clear hp
       go_wp2_with fail
       go_meet
       exact ⟨by rw [e6],B1⟩
     case rest=>
     obtain ⟨h5,B2⟩:=hcut
     subst h5
     clear B1 c0 c1 c2 c3 PD
     obtain ⟨c0,c1,c2,c3⟩:=B2.out.flat
     go_wp2_with fail
     with_reducible refine (FG.out _).mono ?_
     rintro e w3 ⟨rfl,b3⟩
     have B3:=hid (B2.out.on b3)
     clear b3 B2 FG c0 c1 c2 c3
     go_wp2_with fail
     with_reducible refine (ST.out _).mono ?_
     rintro e w5 ⟨rfl,e5⟩
     rw [e5]
     clear e5 w5 ST
     go_wp2_with fail
     with_reducible refine (PT.out _).mono ?_
     rintro e w6 ⟨rfl,e6⟩
     rw [e6]
     clear e6 w6 PT
     go_wp2_with fail
     with_reducible refine (EX.out _ (TB.out _ B3.out.bel)).mono ?_
     rintro e w7 ⟨rfl,b7⟩
     have B7:=hid (B3.out.on b7)
     clear b7 B3 EX
     go_wp2_with fail
     go_ret
     exact ⟨ret_str R.out,B7.out.bel⟩
    ·obtain ⟨c0,c1,c2,c3⟩:=B0.out.flat
     go_enter Tryz.func134,Tryz.ntmps134
     go_upto_if 20 with fail
     go_cut [5] (fun v wx=>v=.int .i64 pp∧Hid (SB w w.heap.size 71 F W P wx))
     case first=>
      rcases PC.out with ⟨hp,e6⟩ | ⟨hp,e6⟩
      ·have hp1:(P == -1)=true:=by simpa using hp
       clear hp
       go_wp2_with fail
       go_meet
       exact ⟨by rw [e6],B0⟩
      ·have hp1:(P == -1)=false:=by simpa using hp
       clear hp
       go_wp2_with fail
       go_meet
       exact ⟨by rw [e6],B0⟩
     case rest=>
     obtain ⟨h5,B1⟩:=hcut
     subst h5
     clear B0 c0 c1 c2 c3 PC
     obtain ⟨c0,c1,c2,c3⟩:=B1.out.flat
     go_wp2_with fail
     with_reducible refine (H8.out _).mono ?_
     rintro e w2 ⟨rfl,e2⟩
     rw [e2]
     clear e2 w2 H8
     go_upto_if 67 with fail
     go_cut [5] (fun v wx=>v=.int .i64 q∧Hid (SB w w.heap.size 71 F W P wx))
     case first=>
      rcases PD.out with ⟨hp,e6⟩ | ⟨hp,e6⟩
      ·have hp1:(pp == 0)=true:=by simpa using hp
       clear hp
       go_wp2_with fail
       go_meet
       exact ⟨by rw [e6],B1⟩
      ·have hp1:(pp == 0)=false:=by simpa using hp
       clear hp
       go_wp2_with fail
       go_meet
       exact ⟨by rw [e6],B1⟩
     case rest=>
     obtain ⟨h5,B2⟩:=hcut
     subst h5
     clear B1 c0 c1 c2 c3 PD
     obtain ⟨c0,c1,c2,c3⟩:=B2.out.flat
     go_wp2_with fail
     with_reducible refine (FG.out _).mono ?_
     rintro e w3 ⟨rfl,b3⟩
     have B3:=hid (B2.out.on b3)
     clear b3 B2 FG c0 c1 c2 c3
     go_wp2_with fail
     with_reducible refine (ST.out _).mono ?_
     rintro e w5 ⟨rfl,e5⟩
     rw [e5]
     clear e5 w5 ST
     go_wp2_with fail
     with_reducible refine (PT.out _).mono ?_
     rintro e w6 ⟨rfl,e6⟩
     rw [e6]
     clear e6 w6 PT
     go_wp2_with fail
     with_reducible refine (EX.out _ (TB.out _ B3.out.bel)).mono ?_
     rintro e w7 ⟨rfl,b7⟩
     have B7:=hid (B3.out.on b7)
     clear b7 B3 EX
     go_wp2_with fail
     go_ret
     exact ⟨ret_str R.out,B7.out.bel⟩
end Go.Proofs.YtbdhlfklcdegdaaGreatDoor

namespace Go.Proofs.YtbdhlfklcdegdaaGreatDoor
open Go Go.RowKit Go.Deep Go.Shelf
namespace Va
noncomputable def toE (k n:Int) (xs:List Int):Int:=if k=1 then wrE n xs else 0
noncomputable def toT (k n:Int) (ts xs:List Int):List Int:=if k=1 then wrT n xs else if k=2∨k=3 then ts else []
end Va
set_option maxRecDepth 100000 in
set_option maxHeartbeats 2000000 in
theorem vtostr_any (k n:Int) (t s:ByteArray) (ts xs:List Int) (w:World) (hT:Tab w) (ht:Tab10 w) (h0:0≤n) (h1:n<18446744073709551616) (htx:Str t ts) (htl:ts.length≤140737488355328) (hs:Str s xs) (hl:xs.length≤16777216):
  Calls Tryz.prog 16 #[.agg #[.int .i64 k,.int .u64 n,.string t],.string s] w fun e w'=>e=.returned (.tuple #[.string (strOfNums (Va.toT k n ts xs)),.int .i64 (Va.toE k n xs)])∧Below w.heap.size w w':=by
 have te:t=strOfNums ts:=str_of htx
 have IN:=hid (fun W=>vinside_any k n t W)
 have CL:=hid (fun W=>vclone_any t W (by rw [htx.size];omega))
 have B0:=hid (alloc_b w (.cells #[.int .i64 k,.int .u64 n,.string t] 26))
 by_cases k1:k=1
 ·subst k1
  have WR:Hid (∀W,Below w.heap.size w W→Calls Tryz.prog 50 #[.int .u64 n,.string s] W fun e w'=>e=.returned (.tuple #[.string (strOfNums (Va.toT 1 n ts xs)),.int .i64 (Va.toE 1 n xs)])∧Below W.heap.size W w'):=fun W h=>vwritten_any n s xs W (hT.below h) (Tab10.bel ht h) h0 h1 hs hl
  have TA:∀wx:World,(Instr.typeAssert (.iface 85 (.agg #[.int .u64 n])) 82 85 true).run Tryz.prog wx=.ok (.tuple #[.agg #[.int .u64 n],.bool true]) wx:=fun wx=>by kernel_rfl
  have IN1:Hid (∀W,Calls Tryz.prog 49 #[.agg #[.int .i64 1,.int .u64 n,.string t]] W fun e w'=>e=.returned (.iface 85 (.agg #[.int .u64 n]))∧Below W.heap.size W w'):=IN.out
  clear IN CL te hT ht h0 h1 htx htl hs hl
  generalize strOfNums (Va.toT 1 n ts xs)=S at *
  generalize Va.toE 1 n xs=E at *
  go_enter Tryz.func16,Tryz.ntmps16
  go_wp2_with fail
  refine (IN1.out _).mono ?_
  rintro e w1 ⟨rfl,b1⟩
  have B1:=hid (below_on (below_on B0.out b1) (alloc_b w1 (.cells #[.int .u64 n] 85)))
  clear b1 B0 IN1
  go_wp2_with fail
  refine (WR.out _ B1.out).mono ?_
  rintro e w2 ⟨rfl,b2⟩
  have F:=hid (below_on B1.out b2)
  clear b2 B1 WR
  go_wp2_with fail
  go_ret2
  exact ⟨rfl,F.out⟩
 have eE:Va.toE k n xs=0:=if_neg k1
 rw [eE]
 by_cases k3:k=3
 ·subst k3
  have eT:Va.toT 3 n ts xs=ts:=by unfold Va.toT;simp
  rw [eT,←te]
  have TA:∀wx:World,(Instr.typeAssert (.iface 66 (.agg #[.int .u64 n,.string t])) 82 85 true).run Tryz.prog wx=.ok (.tuple #[.agg #[.int .u64 0],.bool false]) wx:=fun wx=>by kernel_rfl
  have TB:∀wx:World,(Instr.typeAssert (.iface 66 (.agg #[.int .u64 n,.string t])) 82 66 true).run Tryz.prog wx=.ok (.tuple #[.agg #[.int .u64 n,.string t],.bool true]) wx:=fun wx=>by kernel_rfl
  have IN1:Hid (∀W,Calls Tryz.prog 49 #[.agg #[.int .i64 3,.int .u64 n,.string t]] W fun e w'=>e=.returned (.iface 66 (.agg #[.int .u64 n,.string t]))∧Below W.heap.size W w'):=IN.out
  clear IN te hT ht h0 h1 htx htl hs hl eE eT k1
  go_enter Tryz.func16,Tryz.ntmps16
  go_wp2_with fail
  refine (IN1.out _).mono ?_
  rintro e w1 ⟨rfl,b1⟩
  have B1:=hid (below_on (below_on B0.out b1) (alloc_b w1 (.cells #[.int .u64 n,.string t] 66)))
  clear b1 B0 IN1
  go_wp2_with fail
  refine (CL.out _).mono ?_
  rintro e w2 ⟨rfl,b2⟩
  have F:=hid (below_on B1.out b2)
  clear b2 B1 CL
  go_wp2_with fail
  go_ret2
  exact ⟨rfl,F.out⟩
 by_cases k2:k=2
 ·subst k2
  have eT:Va.toT 2 n ts xs=ts:=by unfold Va.toT;simp
  rw [eT,←te]
  have TA:∀wx:World,(Instr.typeAssert (.iface 69 (.agg #[.string t])) 82 85 true).run Tryz.prog wx=.ok (.tuple #[.agg #[.int .u64 0],.bool false]) wx:=fun wx=>by kernel_rfl
  have TB:∀wx:World,(Instr.typeAssert (.iface 69 (.agg #[.string t])) 82 66 true).run Tryz.prog wx=.ok (.tuple #[.agg #[.int .u64 0,.string ⟨#[]⟩],.bool false]) wx:=fun wx=>by kernel_rfl
  have TC:∀wx:World,(Instr.typeAssert (.iface 69 (.agg #[.string t])) 82 69 true).run Tryz.prog wx=.ok (.tuple #[.agg #[.string t],.bool true]) wx:=fun wx=>by kernel_rfl
  have IN1:Hid (∀W,Calls Tryz.prog 49 #[.agg #[.int .i64 2,.int .u64 n,.string t]] W fun e w'=>e=.returned (.iface 69 (.agg #[.string t]))∧Below W.heap.size W w'):=IN.out
  clear IN te hT ht h0 h1 htx htl hs hl eE eT k1 k3
  go_enter Tryz.func16,Tryz.ntmps16
  go_wp2_with fail
  refine (IN1.out _).mono ?_
  rintro e w1 ⟨rfl,b1⟩
  have B1:=hid (below_on (below_on B0.out b1) (alloc_b w1 (.cells #[.string t] 69)))
  clear b1 B0 IN1
  go_wp2_with fail
  refine (CL.out _).mono ?_
  rintro e w2 ⟨rfl,b2⟩
  have F:=hid (below_on B1.out b2)
  clear b2 B1 CL
  go_wp2_with fail
  go_ret2
  exact ⟨rfl,F.out⟩
 have eT:Va.toT k n ts xs=[]:=by unfold Va.toT;rw [if_neg k1,if_neg (fun q=>q.elim k2 k3)]
 rw [eT]
 have TA:∀wx:World,(Instr.typeAssert (.iface 129 (.agg #[])) 82 85 true).run Tryz.prog wx=.ok (.tuple #[.agg #[.int .u64 0],.bool false]) wx:=fun wx=>by kernel_rfl
 have TB:∀wx:World,(Instr.typeAssert (.iface 129 (.agg #[])) 82 66 true).run Tryz.prog wx=.ok (.tuple #[.agg #[.int .u64 0,.string ⟨#[]⟩],.bool false]) wx:=fun wx=>by kernel_rfl
 have TC:∀wx:World,(Instr.typeAssert (.iface 129 (.agg #[])) 82 69 true).run Tryz.prog wx=.ok (.tuple #[.agg #[.string ⟨#[]⟩],.bool false]) wx:=fun wx=>by kernel_rfl
 have e:Va.ins k n t=.iface 129 (.agg #[]):=by rw [Va.ins,if_neg k1,if_neg k2,if_neg k3]
 rw [e] at IN
 clear CL te hT ht h0 h1 htx htl hs hl eE eT e k1 k2 k3
 go_enter Tryz.func16,Tryz.ntmps16
 go_wp2_with fail
 refine (IN.out _).mono ?_
 rintro e w1 ⟨rfl,b1⟩
 have F:=hid (below_on B0.out b1)
 clear b1 B0 IN
 go_wp2_with fail
 go_ret2
 exact ⟨rfl,F.out⟩
end Go.Proofs.YtbdhlfklcdegdaaGreatDoor

namespace Go.Proofs.YtbdhlfklcdegdaaGreatDoor
open Go Go.RowKit Go.Deep Go.Shelf
theorem xbody_any (V F W P d:Int) (w:World) (hT:Tab10 w) (hV:Po.okV V=true) (f0:0≤F) (f1:F≤31) (p0:-1≤P) (p1:P≤4096) (h0:0≤d) (h1:d<18446744073709551616) (hf:Ie.fnt d=true):
  Calls Tryz.prog 134 #[.agg #[.int .u8 V,.int .i64 F,.int .i64 W,.int .i64 P],.int .u64 d] w fun e w'=>e=.returned (.string (strOfNums (Po.bd V (Wh.bit F 8) P d)))∧Below w.heap.size w w':=by
 have hV:=of_decide_eq_true hV
 rcases (show (V=102∨V=70)∨(V=101∨V=69)∨(V=103∨V=71) by omega) with hv | hv | hv
 ·exact xbody_f V F W P d w hT hv f0 f1 p0 p1 h0 h1 hf
 ·exact xbody_e V F W P d w hT hv f0 f1 p0 p1 h0 h1 hf
 ·exact xbody_g V F W P d w hT hv f0 f1 p0 p1 h0 h1 hf
set_option maxRecDepth 100000 in
set_option maxHeartbeats 8000000 in
theorem xrender_any (V F W P d:Int) (w:World) (hT:Tab10 w) (v0:0≤V) (v1:V<256) (h0:0≤d) (h1:d<18446744073709551616):
  Calls Tryz.prog 81 #[.agg #[.int .u8 V,.int .i64 F,.int .i64 W,.int .i64 P],.int .u64 d] w fun e w'=>RenTold V F W P d w e w':=by
 have B0:=hid (SB.new w V F W P)
 have TB:Hid (∀wk,Below w.heap.size w wk→Tab10 wk):=fun wk k=>hT.bel k
 have SP:=hid (fun W'=>xspecial_any V F W P d W' v0 v1 h0 h1)
 unfold SpcTold at SP
 by_cases hV:Po.okV V=true
 ·have hR:Po.renE V F W P=Wh.chk F W P:=by rw [Po.renE,if_pos hV]
  have VC:=hid (of_decide_eq_true hV)
  by_cases hc:Wh.chk F W P=0
  ·obtain ⟨⟨f0,f1⟩,⟨wl,wu⟩,⟨p0,p1⟩⟩:=Wh.chk_ok hc
   by_cases hf:Ie.fnt d=true
   ·have sp1:Po.spb F W P d=false:=by rw [Po.spb,hf];simp
    have BO:=hid (fun W' (ht:Tab10 W')=>xbody_any V F W P d W' ht hV f0 f1 p0 p1 h0 h1 hf)
    obtain ⟨bb,bl⟩:=Po.bd_ok (V:=V) (P:=P) (d:=d) (Wh.bit F 8) hf p0 p1
    have LD:=hid (fun W'=>xlaid_any V F W P (decide (9223372036854775808≤d)) true (Po.bd V (Wh.bit F 8) P d) W' f0 f1 wl wu bb (by omega))
    have G:Hid (∀w',Below w.heap.size w w'→RenTold V F W P d w (.returned (.tuple #[.string (strOfNums (Wh.padT F W true (Wh.sgn F (decide (9223372036854775808≤d))) (Po.bd V (Wh.bit F 8) P d))),.int .i64 0])) w'):=fun w' k=>by
     refine ⟨?_,k⟩
     rw [Po.ren,hR,if_pos hc,if_pos hf,hc]
     rfl
    rw [sp1,hc] at SP
    clear hT v0 v1 h0 h1 hV hR hc hf f0 f1 p0 p1 bb bl sp1 wl wu
    generalize Po.spc V F W P d=SC at *
    generalize strOfNums (Wh.padT F W true (Wh.sgn F (decide (9223372036854775808≤d))) (Po.bd V (Wh.bit F 8) P d))=RR at *
    generalize strOfNums (Po.bd V (Wh.bit F 8) P d)=sb at *
    obtain ⟨c0,c1,c2,c3⟩:=B0.out.flat
    go_enter Tryz.func81,Tryz.ntmps81
    go_upto_block 0 with fail
    go_cut [11] (fun _ wx=>Hid (SB w w.heap.size V F W P wx))
    case first=>
     rcases VC.out with h | h | h | h | h | h
     ·have k0:(V == 101)=true:=by rw [h];rfl
      clear h
      go_wp2_with fail
      go_meet
      exact B0
     ·have k0:(V == 101)=false:=by rw [h];rfl
      have k1:(V == 69)=true:=by rw [h];rfl
      clear h
      go_wp2_with fail
      go_meet
      exact B0
     ·have k0:(V == 101)=false:=by rw [h];rfl
      have k1:(V == 69)=false:=by rw [h];rfl
      have k2:(V == 102)=true:=by rw [h];rfl
      clear h
      go_wp2_with fail
      go_meet
      exact B0
     ·have k0:(V == 101)=false:=by rw [h];rfl
      have k1:(V == 69)=false:=by rw [h];rfl
      have k2:(V == 102)=false:=by rw [h];rfl
      have k3:(V == 70)=true:=by rw [h];rfl
      clear h
      go_wp2_with fail
      go_meet
      exact B0
     ·have k0:(V == 101)=false:=by rw [h];rfl
      have k1:(V == 69)=false:=by rw [h];rfl
      have k2:(V == 102)=false:=by rw [h];rfl
      have k3:(V == 70)=false:=by rw [h];rfl
      have k4:(V == 103)=true:=by rw [h];rfl
      clear h
      go_wp2_with fail
      go_meet
      exact B0
     ·have k0:(V == 101)=false:=by rw [h];rfl
      have k1:(V == 69)=false:=by rw [h];rfl
      have k2:(V == 102)=false:=by rw [h];rfl
      have k3:(V == 70)=false:=by rw [h];rfl
      have k4:(V == 103)=false:=by rw [h];rfl
      have k5:(V == 71)=true:=by rw [h];rfl
      clear h
      go_wp2_with fail
      go_meet
      exact B0
    case rest=>
    have B1:=hcut
    clear B0 c0 c1 c2 c3 VC
    obtain ⟨c0,c1,c2,c3⟩:=B1.out.flat
    go_wp2_with fail
    with_reducible refine (SP.out _).mono ?_
    rintro e w2 ⟨rfl,b2⟩
    have B2:=hid (B1.out.on b2)
    clear b2 B1 SP c0 c1 c2 c3
    obtain ⟨c0,c1,c2,c3⟩:=B2.out.flat
    go_upto_region 12 with fail
    have T1:=hid B2.out.drew
    go_region_held3 (fun wx=>wx.cell? ⟨w.heap.size,0,none⟩=some (.int .u8 V)∧wx.cell? ⟨w.heap.size,1,none⟩=some (.int .i64 F)∧wx.cell? ⟨w.heap.size,2,none⟩=some (.int .i64 W)∧wx.cell? ⟨w.heap.size,3,none⟩=some (.int .i64 P)) (first | (with_reducible exact T3.out.flat) | (with_reducible exact T2.out.flat) | (with_reducible exact T1.out.flat)) (first
     | (go_at_call 134;with_reducible refine (BO.out _ (TB.out _ T1.out.bel)).mono ?_;rintro e wa ⟨rfl,hB⟩;have T2:=hid (T1.out.on hB);clear hB)
     | (go_at_call 133;with_reducible refine (LD.out _).mono ?_;rintro e wb ⟨rfl,hB⟩;have T3:=hid (T2.out.on hB);clear hB))
    go_wp2_with fail
    go_ret2
    exact G.out _ T3.out.bel
   ·have hf':Ie.fnt d=false:=by simpa using hf
    have sp1:Po.spb F W P d=true:=by rw [Po.spb,hf',hc];rfl
    have sp2:Po.spc V F W P d=Po.ren V F W P d:=by rw [Po.spc,if_pos ⟨hc,hf'⟩,Po.ren,hR,if_pos hc,if_neg hf]
    have G:Hid (∀w',Below w.heap.size w w'→RenTold V F W P d w (.returned (.tuple #[.string (strOfNums (Po.ren V F W P d)),.int .i64 0])) w'):=fun w' k=>⟨by rw [hR,hc],k⟩
    rw [sp1,sp2,hc] at SP
    clear hT v0 v1 h0 h1 hV hR hc hf hf' f0 f1 p0 p1 sp1 sp2
    generalize Po.ren V F W P d=RN at *
    obtain ⟨c0,c1,c2,c3⟩:=B0.out.flat
    go_enter Tryz.func81,Tryz.ntmps81
    go_upto_block 0 with fail
    go_cut [11] (fun _ wx=>Hid (SB w w.heap.size V F W P wx))
    case first=>
     rcases VC.out with h | h | h | h | h | h
     ·have k0:(V == 101)=true:=by rw [h];rfl
      clear h
      go_wp2_with fail
      go_meet
      exact B0
     ·have k0:(V == 101)=false:=by rw [h];rfl
      have k1:(V == 69)=true:=by rw [h];rfl
      clear h
      go_wp2_with fail
      go_meet
      exact B0
     ·have k0:(V == 101)=false:=by rw [h];rfl
      have k1:(V == 69)=false:=by rw [h];rfl
      have k2:(V == 102)=true:=by rw [h];rfl
      clear h
      go_wp2_with fail
      go_meet
      exact B0
     ·have k0:(V == 101)=false:=by rw [h];rfl
      have k1:(V == 69)=false:=by rw [h];rfl
      have k2:(V == 102)=false:=by rw [h];rfl
      have k3:(V == 70)=true:=by rw [h];rfl
      clear h
      go_wp2_with fail
      go_meet
      exact B0
     ·have k0:(V == 101)=false:=by rw [h];rfl
      have k1:(V == 69)=false:=by rw [h];rfl
      have k2:(V == 102)=false:=by rw [h];rfl
      have k3:(V == 70)=false:=by rw [h];rfl
      have k4:(V == 103)=true:=by rw [h];rfl
      clear h
      go_wp2_with fail
      go_meet
      exact B0
     ·have k0:(V == 101)=false:=by rw [h];rfl
      have k1:(V == 69)=false:=by rw [h];rfl
      have k2:(V == 102)=false:=by rw [h];rfl
      have k3:(V == 70)=false:=by rw [h];rfl
      have k4:(V == 103)=false:=by rw [h];rfl
      have k5:(V == 71)=true:=by rw [h];rfl
      clear h
      go_wp2_with fail
      go_meet
      exact B0
    case rest=>
    have B1:=hcut
    clear B0 c0 c1 c2 c3 VC
    obtain ⟨c0,c1,c2,c3⟩:=B1.out.flat
    go_wp2_with fail
    with_reducible refine (SP.out _).mono ?_
    rintro e w2 ⟨rfl,b2⟩
    have B2:=hid (B1.out.on b2)
    clear b2 B1 SP c0 c1 c2 c3
    obtain ⟨c0,c1,c2,c3⟩:=B2.out.flat
    go_wp2_with fail
    go_ret2
    exact G.out _ B2.out.bel
  ·have sp2:Po.spc V F W P d=Po.ren V F W P d:=by rw [Po.spc,if_neg (fun q=>hc q.1),Po.ren,hR,if_neg hc]
   have G:Hid (∀w',Below w.heap.size w w'→RenTold V F W P d w (.returned (.tuple #[.string (strOfNums (Po.ren V F W P d)),.int .i64 (Wh.chk F W P)])) w'):=fun w' k=>⟨by rw [hR],k⟩
   have hne:(Wh.chk F W P != 0)=true:=by simpa using hc
   have hne2:(Wh.chk F W P == 0)=false:=by simpa using hc
   rw [sp2] at SP
   clear hT v0 v1 h0 h1 hV hR hc sp2
   generalize Po.ren V F W P d=RN at *
   generalize Po.spb F W P d=sb at *
   generalize Wh.chk F W P=E at *
   obtain ⟨c0,c1,c2,c3⟩:=B0.out.flat
   go_enter Tryz.func81,Tryz.ntmps81
   go_upto_block 0 with fail
   go_cut [11] (fun _ wx=>Hid (SB w w.heap.size V F W P wx))
   case first=>
    rcases VC.out with h | h | h | h | h | h
    ·have k0:(V == 101)=true:=by rw [h];rfl
     clear h
     go_wp2_with fail
     go_meet
     exact B0
    ·have k0:(V == 101)=false:=by rw [h];rfl
     have k1:(V == 69)=true:=by rw [h];rfl
     clear h
     go_wp2_with fail
     go_meet
     exact B0
    ·have k0:(V == 101)=false:=by rw [h];rfl
     have k1:(V == 69)=false:=by rw [h];rfl
     have k2:(V == 102)=true:=by rw [h];rfl
     clear h
     go_wp2_with fail
     go_meet
     exact B0
    ·have k0:(V == 101)=false:=by rw [h];rfl
     have k1:(V == 69)=false:=by rw [h];rfl
     have k2:(V == 102)=false:=by rw [h];rfl
     have k3:(V == 70)=true:=by rw [h];rfl
     clear h
     go_wp2_with fail
     go_meet
     exact B0
    ·have k0:(V == 101)=false:=by rw [h];rfl
     have k1:(V == 69)=false:=by rw [h];rfl
     have k2:(V == 102)=false:=by rw [h];rfl
     have k3:(V == 70)=false:=by rw [h];rfl
     have k4:(V == 103)=true:=by rw [h];rfl
     clear h
     go_wp2_with fail
     go_meet
     exact B0
    ·have k0:(V == 101)=false:=by rw [h];rfl
     have k1:(V == 69)=false:=by rw [h];rfl
     have k2:(V == 102)=false:=by rw [h];rfl
     have k3:(V == 70)=false:=by rw [h];rfl
     have k4:(V == 103)=false:=by rw [h];rfl
     have k5:(V == 71)=true:=by rw [h];rfl
     clear h
     go_wp2_with fail
     go_meet
     exact B0
   case rest=>
   have B1:=hcut
   clear B0 c0 c1 c2 c3 VC
   obtain ⟨c0,c1,c2,c3⟩:=B1.out.flat
   go_wp2_with fail
   with_reducible refine (SP.out _).mono ?_
   rintro e w2 ⟨rfl,b2⟩
   have B2:=hid (B1.out.on b2)
   clear b2 B1 SP c0 c1 c2 c3
   obtain ⟨c0,c1,c2,c3⟩:=B2.out.flat
   go_wp2_with fail
   go_ret2
   exact G.out _ B2.out.bel
 ·have hV':Po.okV V=false:=by simpa using hV
  have hn:=of_decide_eq_false hV'
  have hR:Po.renE V F W P=140:=by rw [Po.renE,if_neg hV]
  have G:Hid (∀w',Below w.heap.size w w'→RenTold V F W P d w (.returned (.tuple #[.string ⟨#[]⟩,.int .i64 140])) w'):=fun w' k=>⟨by rw [Po.ren,hR,if_neg (by decide)];rfl,k⟩
  have k0:(V == 101)=false:=by rw [beq_eq_false_iff_ne];omega
  have k1:(V == 69)=false:=by rw [beq_eq_false_iff_ne];omega
  have k2:(V == 102)=false:=by rw [beq_eq_false_iff_ne];omega
  have k3:(V == 70)=false:=by rw [beq_eq_false_iff_ne];omega
  have k4:(V == 103)=false:=by rw [beq_eq_false_iff_ne];omega
  have k5:(V == 71)=false:=by rw [beq_eq_false_iff_ne];omega
  clear hV hV' hn hR SP TB hT
  go_enter Tryz.func81,Tryz.ntmps81
  go_wp2_with fail
  go_ret2
  exact G.out _ B0.out.bel
end Go.Proofs.YtbdhlfklcdegdaaGreatDoor

namespace Go.Proofs.YtbdhlfklcdegdaaGreatDoor
open Go Go.RowKit Go.Deep Go.Shelf
structure VB (w:World) (k n:Int) (t:ByteArray) (W:World):Prop where
 bel:Below w.heap.size w W
 box:W.heap[w.heap.size]?=some (.cells #[.int .i64 k,.int .u64 n,.string t] 26 (0,0))
theorem VB.new (w:World) (k n:Int) (t:ByteArray):VB w k n t (w.alloc (.cells #[.int .i64 k,.int .u64 n,.string t] 26)):=⟨alloc_b w _,heap_alloc_new w _⟩
theorem VB.on {w W W':World} {k n:Int} {t:ByteArray} (h:VB w k n t W) (b:Below W.heap.size W W'):VB w k n t W':=by
 have hl:w.heap.size<W.heap.size:=by
  rcases Nat.lt_or_ge w.heap.size W.heap.size with q | q
  ·exact q
  ·have:=h.box;rw [Array.getElem?_eq_none q] at this;cases this
 exact ⟨below_on h.bel b,by rw [b.block _ hl];exact h.box⟩
theorem VB.cells {w W:World} {k n:Int} {t:ByteArray} (h:VB w k n t W):W.cell? ⟨w.heap.size,0,none⟩=some (.int .i64 k)∧W.cell? ⟨w.heap.size,1,none⟩=some (.int .u64 n)∧W.cell? ⟨w.heap.size,2,none⟩=some (.string t):=by
 refine ⟨?_,?_,?_⟩ <;> rw [Lib.cell_of_heap h.box] <;> rfl
set_option maxRecDepth 100000 in
set_option maxHeartbeats 2000000 in
theorem vrtostr_any (k n:Int) (t s:ByteArray) (ts xs:List Int) (w:World) (ht:Tab10 w) (h0:0≤n) (h1:n<18446744073709551616) (htx:Str t ts) (hs:Str s xs) (hl:xs.length≤16777216):
  Calls Tryz.prog 41 #[.agg #[.int .i64 k,.int .u64 n,.string t],.string s] w fun e w'=>e=.returned (.tuple #[.string (strOfNums (Va.toT k n ts xs)),.int .i64 (Va.toE k n xs)])∧Below w.heap.size w w':=by
 have te:t=strOfNums ts:=str_of htx
 have B0:=hid (VB.new w k n t)
 by_cases k2:k=2
 ·subst k2
  have eT:Va.toT 2 n ts xs=ts:=by unfold Va.toT;simp
  have eE:Va.toE 2 n xs=0:=if_neg (by omega)
  rw [eT,eE,←te]
  have F:=hid B0.out.bel
  clear te ht h0 h1 htx hs hl eT eE B0
  go_enter Tryz.func41,Tryz.ntmps41
  go_wp2_with fail
  go_ret2
  exact ⟨rfl,F.out⟩
 have f2:(k == 2)=false:=by simpa using k2
 by_cases k3:k=3
 ·subst k3
  have eT:Va.toT 3 n ts xs=ts:=by unfold Va.toT;simp
  have eE:Va.toE 3 n xs=0:=if_neg (by omega)
  rw [eT,eE,←te]
  have F:=hid B0.out.bel
  clear te ht h0 h1 htx hs hl eT eE B0 k2
  go_enter Tryz.func41,Tryz.ntmps41
  go_wp2_with fail
  go_ret2
  exact ⟨rfl,F.out⟩
 have f3:(k == 3)=false:=by simpa using k3
 by_cases k1:k=1
 ·subst k1
  have IN:=hid (fun W=>vrint_any n W h0 h1)
  have SG:=hid (fun W=>rsingle_any s xs W hs hl)
  have t1:Va.toT 1 n ts xs=Va.wrT n xs:=if_pos rfl
  have t2:Va.toE 1 n xs=Va.wrE n xs:=if_pos rfl
  rw [t1,t2]
  clear t1 t2 te htx k2 k3 f2 f3
  by_cases hk:Va.ok n=true
  ·have F:Hid (Ending.returned (.tuple #[.string (strOfNums (Va.tx n)),.int .i64 0])=Ending.returned (.tuple #[.string (strOfNums (Va.wrT n xs)),.int .i64 (Va.wrE n xs)])):=by rw [Hid,Va.wrT,Va.wrE,if_pos hk,if_pos hk]
   rw [hk] at IN
   clear hk h0 h1 ht hs hl SG
   generalize strOfNums (Va.tx n)=S at *
   go_enter Tryz.func41,Tryz.ntmps41
   go_wp2_with fail
   generalize w.alloc (.cells #[.int .i64 1,.int .u64 n,.string t] 26)=wA at *
   refine (IN.out _).mono ?_
   rintro e w1 ⟨rfl,b1⟩
   have B:=hid (B0.out.on b1).bel
   clear b1 IN B0
   go_wp2_with fail
   go_ret2
   exact ⟨F.out,B.out⟩
  have hf:Va.ok n=false:=by simpa using hk
  rw [hf] at IN
  by_cases hO:Dr.sgO xs=true
  ·obtain ⟨y1,y2⟩:=sg_of hO
   obtain ⟨z1,z2,z3,z4,z5⟩:=Dr.sg_one y1
   have sy:=Dr.sg_yes hO
   have wb:=Dr.num_bd z2.2.2.2.2.1 (by omega)
   have pb:=Dr.num_bd z2.2.2.2.2.2 (by omega)
   have VC:=pvs_in y2
   have vb:0≤(Dr.sgP xs).v∧(Dr.sgP xs).v<256:=by rcases VC with z | z | z | z | z | z <;> omega
   have okv:Po.okV (Dr.sgP xs).v=true:=decide_eq_true VC
   have sv:Dr.sgS xs=#[.int .u8 (Dr.sgP xs).v,.int .i64 (Dr.sgP xs).fl,.int .i64 (Dr.sgP xs).wd,.int .i64 (sP (Dr.sgP xs) 0)]:=by
    rw [sy.2.2,spv,if_pos z5]
    have e:sW (Dr.sgP xs) 0=(Dr.sgP xs).wd:=if_neg z3
    rw [e,if_neg (by omega),if_neg (by omega)]
   have ck:Wh.chk (Dr.sgP xs).fl (Dr.sgP xs).wd (sP (Dr.sgP xs) 0)=0:=by
    have f0:=z2.2.2.1
    have f1:=z2.2.2.2.1
    have p1:-1≤sP (Dr.sgP xs) 0∧sP (Dr.sgP xs) 0≤4096:=by
     unfold sP
     rw [if_neg z4]
     split <;> omega
    unfold Wh.chk
    rw [if_neg (by omega),if_neg (by omega)]
   have SG1:Hid (∀W,Calls Tryz.prog 80 #[.string s] W fun e w'=>e=.returned (.tuple #[.string (strOfNums (Dr.sgA xs)),.agg #[.int .u8 (Dr.sgP xs).v,.int .i64 (Dr.sgP xs).fl,.int .i64 (Dr.sgP xs).wd,.int .i64 (sP (Dr.sgP xs) 0)],.string (strOfNums (Dr.sgB xs)),.bool true])∧Below W.heap.size W w'):=fun W=>by
    have q:=SG.out W
    simp only [SgTold,sv,hO] at q
    exact q
   have ON:Hid (∀W,Below w.heap.size w W→Calls Tryz.prog 81 #[.agg #[.int .u8 (Dr.sgP xs).v,.int .i64 (Dr.sgP xs).fl,.int .i64 (Dr.sgP xs).wd,.int .i64 (sP (Dr.sgP xs) 0)],.int .u64 n] W fun e w'=>e=.returned (.tuple #[.string (strOfNums (Va.bod n xs)),.int .i64 0])∧Below W.heap.size W w'):=fun W h=>by
    have q:=xrender_any (Dr.sgP xs).v (Dr.sgP xs).fl (Dr.sgP xs).wd (sP (Dr.sgP xs) 0) n W (Tab10.bel ht h) vb.1 vb.2 h0 h1
    have e:Po.renE (Dr.sgP xs).v (Dr.sgP xs).fl (Dr.sgP xs).wd (sP (Dr.sgP xs) 0)=0:=by rw [Po.renE,if_pos okv,ck]
    simp only [RenTold,e] at q
    exact q
   have RL:=Po.ren_len (V:=(Dr.sgP xs).v) (F:=(Dr.sgP xs).fl) (W:=(Dr.sgP xs).wd) (P:=sP (Dr.sgP xs) 0) (d:=n)
   have bl:(Va.bod n xs).length≤30000:=RL.1
   have SA:=Str.of_nums (sg_by hs).1
   have SB:=Str.of_nums (sg_by hs).2
   have SC:Str (strOfNums (Va.bod n xs)) (Va.bod n xs):=Str.of_nums RL.2
   have la:=SA.size
   have lb:=SB.size
   have lc:=SC.size
   have ll:=sg_len (xs:=xs)
   have CAT:=vstr_app (vstr_app SA SC) SB
   have AP:strOfNums (Dr.sgA xs)++strOfNums (Va.bod n xs)++strOfNums (Dr.sgB xs)=strOfNums (Dr.sgA xs++Va.bod n xs++Dr.sgB xs):=str_of CAT
   have C1:∀wx,(Op.stringOp .add (strOfNums (Dr.sgA xs)) (strOfNums (Va.bod n xs))).run Tryz.prog wx=.ok (.string (strOfNums (Dr.sgA xs)++strOfNums (Va.bod n xs))) wx:=fun wx=>run_string_add_sum wx _ _ (by omega)
   have C2:∀wx,(Op.stringOp .add (strOfNums (Dr.sgA xs)++strOfNums (Va.bod n xs)) (strOfNums (Dr.sgB xs))).run Tryz.prog wx=.ok (.string (strOfNums (Dr.sgA xs++Va.bod n xs++Dr.sgB xs))) wx:=fun wx=>by rw [←AP];exact run_string_add_sum wx _ _ (by rw [(vstr_app SA SC).size,List.length_append];omega)
   obtain ⟨la1,hla⟩:∃n:Nat,(strOfNums (Dr.sgA xs)).size=n:=⟨_,rfl⟩
   obtain ⟨lb1,hlb⟩:∃n:Nat,(strOfNums (Dr.sgB xs)).size=n:=⟨_,rfl⟩
   obtain ⟨lc1,hlc⟩:∃m:Nat,(strOfNums (Va.bod n xs)).size=m:=⟨_,rfl⟩
   have KE:Hid (Va.wrE n xs=if 16777216<la1+lc1+lb1 then 3 else 0):=by
    rw [Hid,Va.wrE,if_neg hk,if_pos hO,←hla,←hlb,←hlc,la,lb,lc]
   have KT:Hid (Va.wrT n xs=if Va.wrE n xs=0 then Dr.sgA xs++Va.bod n xs++Dr.sgB xs else []):=by rw [Hid,Va.wrT,if_neg hk]
   have ia:(la1:Int)≤16777216:=by omega
   have ib:(lb1:Int)≤16777216:=by omega
   have ic:(lc1:Int)≤30000:=by omega
   clear y1 y2 z1 z2 z3 z4 z5 sy wb pb sv ck RL bl la lb lc ll CAT AP SA SB SC SG hO hf hk h0 h1 ht hs hl VC vb okv
   generalize strOfNums (Va.tx n)=S0 at *
   generalize (Dr.sgP xs).v=V at *
   generalize (Dr.sgP xs).fl=F at *
   generalize (Dr.sgP xs).wd=Wd at *
   generalize sP (Dr.sgP xs) 0=P at *
   go_enter Tryz.func41,Tryz.ntmps41
   go_wp2_with fail
   generalize w.alloc (.cells #[.int .i64 1,.int .u64 n,.string t] 26)=wA at *
   refine (IN.out _).mono ?_
   rintro e w1 ⟨rfl,b1⟩
   have B1:=hid (B0.out.on b1)
   clear b1 IN B0
   go_wp2_with fail
   refine (SG1.out _).mono ?_
   rintro e w2 ⟨rfl,b2⟩
   have aX:=alloc_b w2 (.cells #[.int .u8 V,.int .i64 F,.int .i64 Wd,.int .i64 P] 58)
   have B2:=hid ((B1.out.on b2).on aX)
   have X2:=hid (S4.new w2 (.int .u8 V) (.int .i64 F) (.int .i64 Wd) (.int .i64 P))
   clear b2 aX B1 SG1
   go_upto_region 12 with fail
   generalize w2.alloc (.cells #[.int .u8 V,.int .i64 F,.int .i64 Wd,.int .i64 P] 58)=w3 at *
   obtain ⟨⟨c0,c1,c2,c3⟩,-⟩:=X2.out.cells
   obtain ⟨d0,d1,d2⟩:=B2.out.cells
   go_wp2_with fail
   refine (ON.out _ B2.out.bel).mono ?_
   rintro e w4 ⟨rfl,b4⟩
   have B4:=hid (B2.out.on b4).bel
   clear b4 B2 ON X2 c0 c1 c2 c3 d0 d1 d2
   by_cases hlong:16777216<la1+lc1+lb1
   ·have hli:(16777216:Int)<(la1:Int)+(lc1:Int)+(lb1:Int):=by omega
    have F:Hid (Ending.returned (.tuple #[.string ⟨#[]⟩,.int .i64 3])=Ending.returned (.tuple #[.string (strOfNums (Va.wrT n xs)),.int .i64 (Va.wrE n xs)])):=by
     show _=_
     rw [KT.out,KE.out,if_pos hlong];rfl
    clear KT KE C1 C2 hlong
    go_wp2_with fail
    go_ret2
    exact ⟨F.out,B4.out⟩
   ·have hli:¬(16777216:Int)<(la1:Int)+(lc1:Int)+(lb1:Int):=by omega
    have F:Hid (Ending.returned (.tuple #[.string (strOfNums (Dr.sgA xs++Va.bod n xs++Dr.sgB xs)),.int .i64 0])=Ending.returned (.tuple #[.string (strOfNums (Va.wrT n xs)),.int .i64 (Va.wrE n xs)])):=by
     show _=_
     rw [KT.out,KE.out,if_neg hlong];rfl
    clear KT KE hlong
    generalize strOfNums (Dr.sgA xs++Va.bod n xs++Dr.sgB xs)=S4 at *
    generalize strOfNums (Dr.sgA xs)=S1 at *
    generalize strOfNums (Dr.sgB xs)=S2 at *
    generalize strOfNums (Va.bod n xs)=S3 at *
    go_wp2_with fail
    go_ret2
    exact ⟨F.out,B4.out⟩
  ·have hof:Dr.sgO xs=false:=by simpa using hO
   have F:Hid (Ending.returned (.tuple #[.string ⟨#[]⟩,.int .i64 170])=Ending.returned (.tuple #[.string (strOfNums (Va.wrT n xs)),.int .i64 (Va.wrE n xs)])):=by
    show _=_
    have e:Va.wrE n xs=170:=by rw [Va.wrE,if_neg hk,if_neg hO]
    rw [Va.wrT,if_neg hk,e];rfl
   have SG1:Hid (∀W,Calls Tryz.prog 80 #[.string s] W fun e w'=>e=.returned (.tuple #[.string ⟨#[]⟩,.agg #[.int .u8 0,.int .i64 0,.int .i64 0,.int .i64 0],.string ⟨#[]⟩,.bool false])∧Below W.heap.size W w'):=fun W=>by
    have q:=SG.out W
    obtain ⟨n1,n2,n3⟩:=Dr.sg_no hof
    simp only [SgTold,n1,n2,n3,hof] at q
    exact q
   clear SG hO hof hf hk h0 h1 ht hs hl
   generalize strOfNums (Va.tx n)=S0 at *
   go_enter Tryz.func41,Tryz.ntmps41
   go_wp2_with fail
   generalize w.alloc (.cells #[.int .i64 1,.int .u64 n,.string t] 26)=wA at *
   refine (IN.out _).mono ?_
   rintro e w1 ⟨rfl,b1⟩
   have B1:=hid (B0.out.on b1)
   clear b1 IN B0
   go_wp2_with fail
   refine (SG1.out _).mono ?_
   rintro e w2 ⟨rfl,b2⟩
   have B2:=hid ((B1.out.on b2).on (alloc_b w2 (.cells #[.int .u8 0,.int .i64 0,.int .i64 0,.int .i64 0] 58))).bel
   clear b2 B1 SG1
   go_wp2_with fail
   go_ret2
   exact ⟨F.out,B2.out⟩
 have f1:(k == 1)=false:=by simpa using k1
 have eT:Va.toT k n ts xs=[]:=by unfold Va.toT;rw [if_neg k1,if_neg (fun q=>q.elim k2 k3)]
 have eE:Va.toE k n xs=0:=if_neg k1
 rw [eT,eE]
 have F:=hid B0.out.bel
 clear te ht h0 h1 htx hs hl eT eE B0 k1 k2 k3
 go_enter Tryz.func41,Tryz.ntmps41
 go_wp2_with fail
 go_ret2
 exact ⟨rfl,F.out⟩
end Go.Proofs.YtbdhlfklcdegdaaGreatDoor

namespace Go.Proofs.YtbdhlfklcdegdaaGreatDoor
open Go Go.RowKit Go.Deep Go.Shelf
set_option maxRecDepth 100000 in
set_option maxHeartbeats 2000000 in
theorem vstrs_any (k n:Int) (t s:ByteArray) (ts xs:List Int) (w:World) (hT:Tab w) (ht:Tab10 w) (h0:0≤n) (h1:n<18446744073709551616) (htx:Str t ts) (htl:ts.length≤140737488355328) (hs:Str s xs) (hl:xs.length≤16777216):
  Calls Tryz.prog 12 #[.agg #[.int .i64 k,.int .u64 n,.string t],.string s] w fun e w'=>e=.returned (.bool true)∧Below w.heap.size w w':=by
 have RS:=hid (fun W (h:Below w.heap.size w W)=>vrtostr_any k n t s ts xs W (Tab10.bel ht h) h0 h1 htx hs hl)
 have PS:=hid (fun W (h:Below w.heap.size w W)=>vtostr_any k n t s ts xs W (hT.below h) (Tab10.bel ht h) h0 h1 htx htl hs hl)
 have RI:=hid (fun W=>vrint_any n W h0 h1)
 have PI:=hid (fun W (h:Below w.heap.size w W)=>vinteger_any n W h0 h1 (Tab10.bel ht h))
 have B0:=hid (VB.new w k n t)
 clear hT ht h0 h1 htx htl hs hl
 generalize strOfNums (Va.toT k n ts xs)=S at *
 generalize Va.toE k n xs=E at *
 generalize strOfNums (Va.tx n)=I at *
 generalize Va.ok n=O at *
 have eS:(S.toList == S.toList)=true:=beq_self_eq_true _
 have eI:(I.toList == I.toList)=true:=beq_self_eq_true _
 have eE:(E == E)=true:=by simp
 have eO:(O == O)=true:=by simp
 go_enter Tryz.func12,Tryz.ntmps12
 go_wp2_with fail
 generalize w.alloc (.cells #[.int .i64 k,.int .u64 n,.string t] 26)=wA at *
 refine (RS.out _ B0.out.bel).mono ?_
 rintro e w1 ⟨rfl,b1⟩
 have B1:=hid (B0.out.on b1)
 clear b1 B0 RS
 obtain ⟨c0,c1,c2⟩:=B1.out.cells
 go_wp2_with fail
 refine (PS.out _ B1.out.bel).mono ?_
 rintro e w2 ⟨rfl,b2⟩
 have B2:=hid (B1.out.on b2)
 clear b2 B1 PS c0 c1 c2
 obtain ⟨c0,c1,c2⟩:=B2.out.cells
 go_wp2_with fail
 refine (RI.out _).mono ?_
 rintro e w3 ⟨rfl,b3⟩
 have B3:=hid (B2.out.on b3)
 clear b3 B2 RI c0 c1 c2
 obtain ⟨c0,c1,c2⟩:=B3.out.cells
 go_wp2_with fail
 refine (PI.out _ B3.out.bel).mono ?_
 rintro e w4 ⟨rfl,b4⟩
 have F:=hid (B3.out.on b4).bel
 clear b4 B3 PI c0 c1 c2
 go_wp2_with fail
 go_ret
 exact ⟨rfl,F.out⟩
end Go.Proofs.YtbdhlfklcdegdaaGreatDoor

namespace Go.Proofs.YtbdhlfklcdegdaaGreatDoor
open Go Go.RowKit Go.Deep Go.ChangeShapes Go.WideShapes Go.ChangeAt
namespace Va
structure Vl where
 k:Int
 n:Int
 s:List Int
end Va
def VlW (a:Va.Vl):Prop:=(∀x∈a.s,0≤x∧x<256)∧(0≤a.n∧a.n<18446744073709551616)∧a.s.length≤140737488351232
def VCells (w:World) (b o:Nat) (a:Va.Vl):Prop:=w.cell? ⟨b,o,none⟩=some (.int .i64 a.k)∧w.cell? ⟨b,o+1,none⟩=some (.int .u64 a.n)∧w.cell? ⟨b,o+2,none⟩=some (.string (strOfNums a.s))
def LV (w:World) (p:Option Addr) (A:List Va.Vl):Prop:=A=[]∨∃b off,p=some ⟨b,off,none⟩∧∀i a,A[i]?=some a→VCells w b (off+i*3) a
theorem vcell_below {B:Nat} {w w':World} {a:Addr} {v:Value} (h:w.cell? a=some v) (k:Below B w w') (hb:a.block<B):w'.cell? a=some v:=by
 rw [←h];exact k.cell hb
theorem VCells.below {w w':World} {b o:Nat} {a:Va.Vl} (h:VCells w b o a) (k:Below w.heap.size w w'):VCells w' b o a:=by
 obtain ⟨c0,c1,c2⟩:=h
 exact ⟨vcell_below c0 k (cell_lt c0),vcell_below c1 k (cell_lt c1),vcell_below c2 k (cell_lt c2)⟩
theorem LV.below {w w':World} {p:Option Addr} {A:List Va.Vl} (h:LV w p A) (k:Below w.heap.size w w'):LV w' p A:=by
 rcases h with h | ⟨b,off,e,h⟩
 ·exact .inl h
 ·exact .inr ⟨b,off,e,fun i a hi=>(h i a hi).below k⟩
theorem vbulk_mem {H:Type}:∀{l:List (DataW H)} {d:DataW H},d∈l→Rows.uptoBulk d≤Rows.uptoBulkAll l
 | [],_,h=>by simp at h
 | x::r,d,h=>by
  simp only [Rows.uptoBulkAll]
  rcases List.mem_cons.1 h with rfl | h
  ·omega
  ·have:=vbulk_mem h
   omega
theorem vall_mem {H:Type} {P:Program} {e:TypeId}:∀{l:List (DataW H)} {d:DataW H},d∈l→∀n∈d.weights P e,n∈DataW.weightsAll P e l
 | [],_,h,_,_=>by simp at h
 | x::r,d,h,n,hn=>by
  simp only [DataW.weightsAll,List.mem_append]
  rcases List.mem_cons.1 h with rfl | h
  ·exact .inl hn
  ·exact .inr (vall_mem h n hn)
theorem vlist_of_each {α:Type} {Q:Nat→α→Prop}:∀n,(∀i,i<n→∃x,Q i x)→∃l:List α,l.length=n∧∀i x,l[i]?=some x→Q i x
 | 0,_=>⟨[],rfl,by simp⟩
 | n+1,h=>by
  obtain ⟨l,h1,h2⟩:=vlist_of_each n (fun i hi=>h i (by omega))
  obtain ⟨x,hx⟩:=h n (by omega)
  refine ⟨l++[x],by simp [h1],fun i y hy=>?_⟩
  by_cases hi:i<l.length
  ·rw [List.getElem?_append_left hi] at hy
   exact h2 i y hy
  ·have hlt:=(List.getElem?_eq_some_iff.1 hy).1
   simp only [List.length_append,List.length_cons,List.length_nil] at hlt
   obtain rfl:i=n:=by omega
   rw [List.getElem?_append_right (by omega),h1,Nat.sub_self] at hy
   simp at hy
   subst hy
   exact hx
theorem vlist3 {α:Type} {l:List α} (h:l.length=3):∃c0 c1 c2,l=[c0,c1,c2]:=by
 match l,h with
 | [c0,c1,c2],_=>exact ⟨c0,c1,c2,rfl⟩
theorem open_val_cells {H:Type} {enc:TypeId × Value→H} {W:World} {fuel:Nat} {a0 a1 a2:Value} {x:DataW H × List MemPlace} (hf:DataW.trod enc Tryz.prog W 0 (fun _=>true) true fuel 26 [a0,a1,a2]=some x)
  (hsz:∀n∈x.1.weights Tryz.prog 26,n≤reachBytes):
  ∃q:Va.Vl,(a0=.int .i64 q.k∧a1=.int .u64 q.n∧a2=.string (strOfNums q.s))∧VlW q∧q.s.length≤Rows.uptoBulk x.1:=by
 obtain ⟨xs,n,_,hx,_,hlen,hfs⟩:=DataW.trod_struct Tryz.underlying26 hf
 obtain ⟨y0,y1,y2,rfl⟩:=vlist3 hlen
 have c4:Tryz.prog.cellsOf 3=1:=by kernel_rfl
 have c6:Tryz.prog.cellsOf 24=1:=by kernel_rfl
 have cs:Tryz.prog.cellsOf 9=1:=by kernel_rfl
 have f0:DataW.trod enc Tryz.prog W 0 (fun _=>true) true n 3 [a0]=some y0:=by simpa [c4] using hfs 0 _ rfl
 have f1:DataW.trod enc Tryz.prog W 0 (fun _=>true) true n 24 [a1]=some y1:=by simpa [c6] using hfs 1 _ rfl
 have f2:DataW.trod enc Tryz.prog W 0 (fun _=>true) true n 9 [a2]=some y2:=by simpa [cs] using hfs 2 _ rfl
 have hd:x.1=.agg [y0.1,y1.1,y2.1]:=by rw [hx];rfl
 obtain ⟨bx,e0,_,w0⟩:=DataW.trod_int Tryz.underlying3 f0
 obtain ⟨v,e1,_,w1⟩:=DataW.trod_int Tryz.underlying24 f1
 obtain ⟨s,e2,q2,_⟩:=DataW.trod_string Tryz.underlying9 f2
 have hs:s.data.toList.length≤reachBytes:=by
  refine hsz _ ?_
  rw [hd]
  simp only [DataW.weights,Tryz.underlying26]
  refine DataW.weights_mem_each (ts:=[3,24,9]) (ds:=[y0.1,y1.1,y2.1]) (j:=2) (t:=9) (d:=y2.1) rfl rfl _ ?_
  rw [q2]
  simp [DataW.weights]
 have hb:s.data.toList.length≤Rows.uptoBulk x.1:=by
  rw [hd,q2]
  simp only [Rows.uptoBulk,Rows.uptoBulkAll]
  simp
  omega
 have b1:=bounds_u64 w1
 refine ⟨⟨bx,v,s.data.toList.map (fun b=>(b.toNat:Int))⟩,⟨(List.cons.inj e0).1,(List.cons.inj e1).1,?_⟩,⟨fun x hx=>(Str.self s).mem hx,⟨b1.1,Int.lt_of_le_of_lt b1.2 (by decide)⟩,?_⟩,?_⟩
 ·rw [(List.cons.inj e2).1,←str_is (Str.self s)]
 ·rw [List.length_map];exact Nat.le_trans hs (by decide)
 ·rw [List.length_map];exact hb
set_option maxRecDepth 100000 in
theorem open_vals {H:Type} {enc:TypeId × Value→H} {W:World} {a:Option Addr} {len cap:Nat} {d:DataW H} {p:List MemPlace} (h:DataW.Trod enc Tryz.prog W 0 (fun _=>true) true 22 (.slice a len cap) d p)
  (hsz:∀n∈d.weights Tryz.prog 22,n≤reachBytes):∃ps:List Va.Vl,ps.length=len∧LV W a ps∧(∀q∈ps,VlW q)∧(∀q∈ps,q.s.length≤Rows.uptoBulk d)∧len≤cap∧len≤4398046511104∧len≤Rows.uptoBulk d∧(a=none→cap=0)∧cap≤4398046511104:=by
 obtain ⟨fuel,hf⟩:=h
 rcases DataW.trod_slice Tryz.underlying22 hf with ⟨hcs,_⟩ | ⟨x,l,c,elems,rest,n,_,hcs,hx,_,hl,hm,he,hel,hsp,_⟩
 ·simp [Value.cells] at hcs
  obtain ⟨rfl,rfl,rfl⟩:=hcs
  exact ⟨[],rfl,.inl rfl,by intro it h;simp at h,by intro it h;simp at h,by omega,by omega,by omega,fun _=>rfl,by omega⟩
 ·simp [Value.cells] at hcs
  obtain ⟨rfl,rfl,rfl⟩:=hcs
  have hd:d=.slice (elems.map (·.1)) (rest.map (·.1)):=(Prod.mk.inj hx).1
  have hw:∀n∈(DataW.slice (elems.map (·.1)) (rest.map (·.1)):DataW H).weights Tryz.prog 22,n≤reachBytes:=by rw [←hd];exact hsz
  simp only [DataW.weights,Tryz.underlying22] at hw
  have hr:=hw _ List.mem_cons_self
  rw [show Tryz.prog.bytesOf 26=32 by kernel_rfl] at hr
  have hrl:=(hsp rfl).1
  simp only [List.length_map,reachBytes] at hr
  have hbl:len≤Rows.uptoBulk d:=by
   rw [hd]
   refine Nat.le_trans ?_ (bulk_slice _ _)
   rw [List.length_map];omega
  rw [show Tryz.prog.cellsOf 26=3 by kernel_rfl] at hel
  obtain ⟨its,i1,i2⟩:=vlist_of_each (Q:=fun i (it:Va.Vl)=>(W.cell? (x.add (i*3))=some (.int .i64 it.k)∧W.cell? ((x.add (i*3)).add 1)=some (.int .u64 it.n)∧W.cell? ((x.add (i*3)).add 2)=some (.string (strOfNums it.s)))∧VlW it∧it.s.length≤Rows.uptoBulk d) len (fun i hi=>by
   have h1:=hel i hi
   have h2:elems[i]?=some elems[i]:=List.getElem?_eq_getElem (by omega)
   rw [h2] at h1
   obtain ⟨cs,h3,h4⟩:=Option.bind_eq_some_iff.1 h1
   obtain ⟨_,h5,h6⟩:=World.cells?_some h3
   obtain ⟨v0,v1,v2,rfl⟩:=vlist3 h5
   have e0:=h6 0 (by omega)
   have e1:=h6 1 (by omega)
   have e2:=h6 2 (by omega)
   have h8:(x.add (i*3)).add 0=x.add (i*3):=by simp [Addr.add]
   rw [h8] at e0
   obtain ⟨q,⟨q0,q1,q2⟩,hA,hC⟩:=open_val_cells h4 (fun m hm=>hw m (List.mem_cons_of_mem _ (List.mem_append_left _ (vall_mem (List.mem_map.2 ⟨elems[i],List.getElem_mem _,rfl⟩) m hm))))
   subst q0 q1 q2
   refine ⟨q,⟨e0,e1,e2⟩,hA,Nat.le_trans hC ?_⟩
   have:=vbulk_mem (l:=elems.map (·.1)) (d:=elems[i].1) (List.mem_map.2 ⟨elems[i],List.getElem_mem _,rfl⟩)
   rw [hd]
   simp only [Rows.uptoBulk]
   omega)
  refine ⟨its,i1,?_,?_,?_,by omega,by omega,hbl,fun q=>by simp at q,by omega⟩
  ·rcases Nat.eq_zero_or_pos its.length with h0 | h0
   ·exact .inl (List.eq_nil_of_length_eq_zero h0)
   ·obtain ⟨b,off,spot⟩:=x
    have hspot:spot=none:=by simpa [Addr.add] using World.cell?_spot (i2 0 _ (List.getElem?_eq_getElem h0)).1.1
    subst hspot
    refine .inr ⟨b,off,rfl,fun i it hi=>?_⟩
    obtain ⟨⟨q0,q1,q2⟩,_⟩:=i2 i it hi
    simp only [Go.WideShapes.add_plain] at q0 q1 q2
    exact ⟨q0,q1,q2⟩
  ·intro it hit
   obtain ⟨i,hi⟩:=List.getElem?_of_mem hit
   exact (i2 i it hi).2.1
  ·intro it hit
   obtain ⟨i,hi⟩:=List.getElem?_of_mem hit
   exact (i2 i it hi).2.2
def LS (w:World) (a:Option Addr) (its:List ByteArray):Prop:=its=[]∨∃b off,a=some ⟨b,off,none⟩∧∀i it,its[i]?=some it→w.cell? ⟨b,off+i,none⟩=some (.string it)
theorem LS.below {w w':World} {p:Option Addr} {A:List ByteArray} (h:LS w p A) (k:Below w.heap.size w w'):LS w' p A:=by
 rcases h with h | ⟨b,off,e,h⟩
 ·exact .inl h
 ·exact .inr ⟨b,off,e,fun i a hi=>vcell_below (h i a hi) k (cell_lt (h i a hi))⟩
set_option maxRecDepth 100000 in
theorem open_strs {H:Type} {enc:TypeId × Value→H} {W:World} {a:Option Addr} {len cap:Nat} {d:DataW H} {p:List MemPlace} (h:DataW.Trod enc Tryz.prog W 0 (fun _=>true) true 28 (.slice a len cap) d p)
  (hsz:∀n∈d.weights Tryz.prog 28,n≤reachBytes):∃its:List ByteArray,its.length=len∧LS W a its∧(∀it∈its,it.size≤Rows.uptoBulk d)∧len≤cap∧cap≤17592186044416∧len≤Rows.uptoBulk d:=by
 obtain ⟨fuel,hf⟩:=h
 rcases DataW.trod_slice Tryz.underlying28 hf with ⟨hcs,_⟩ | ⟨x,l,c,elems,rest,n,_,hcs,hx,_,hl,hm,he,hel,hsp,_⟩
 ·simp [Value.cells] at hcs
  obtain ⟨rfl,rfl,rfl⟩:=hcs
  exact ⟨[],rfl,.inl rfl,by intro it h;simp at h,Nat.le_refl _,by omega,by omega⟩
 ·simp [Value.cells] at hcs
  obtain ⟨rfl,rfl,rfl⟩:=hcs
  have hd:d=.slice (elems.map (·.1)) (rest.map (·.1)):=(Prod.mk.inj hx).1
  have hw:∀n∈(DataW.slice (elems.map (·.1)) (rest.map (·.1)):DataW H).weights Tryz.prog 28,n≤reachBytes:=by rw [←hd];exact hsz
  simp only [DataW.weights,Tryz.underlying28] at hw
  have hr:=hw _ List.mem_cons_self
  rw [show Tryz.prog.bytesOf 9=16 by kernel_rfl] at hr
  have hrl:=(hsp rfl).1
  simp only [List.length_map,reachBytes] at hr
  have hcap:cap≤17592186044416:=by omega
  have hbl:len≤Rows.uptoBulk d:=by
   rw [hd]
   refine Nat.le_trans ?_ (bulk_slice _ _)
   rw [List.length_map];omega
  rw [show Tryz.prog.cellsOf 9=1 by kernel_rfl] at hel
  obtain ⟨its,i1,i2⟩:=vlist_of_each (Q:=fun i (it:ByteArray)=>W.cell? (x.add i)=some (.string it)∧it.size≤Rows.uptoBulk d) len (fun i hi=>by
   have h1:=hel i hi
   have h2:elems[i]?=some elems[i]:=List.getElem?_eq_getElem (by omega)
   rw [h2,Nat.mul_one] at h1
   obtain ⟨cs,h3,h4⟩:=Option.bind_eq_some_iff.1 h1
   obtain ⟨s,rfl,q1,_⟩:=DataW.trod_string Tryz.underlying9 h4
   obtain ⟨_,h5,h6⟩:=World.cells?_some h3
   have e0:=h6 0 (by simp)
   have h8:(x.add i).add 0=x.add i:=by simp [Addr.add]
   rw [h8] at e0
   refine ⟨s,e0,?_⟩
   have hb:s.size≤Rows.uptoBulk elems[i].1:=by
    rw [q1]
    simp only [Rows.uptoBulk]
    show s.data.size≤_
    rw [←Array.length_toList]
    omega
   have:=vbulk_mem (l:=elems.map (·.1)) (d:=elems[i].1) (List.mem_map.2 ⟨elems[i],List.getElem_mem _,rfl⟩)
   rw [hd]
   simp only [Rows.uptoBulk]
   omega)
  refine ⟨its,i1,?_,?_,hl,hcap,hbl⟩
  ·rcases Nat.eq_zero_or_pos its.length with h0 | h0
   ·exact .inl (List.eq_nil_of_length_eq_zero h0)
   ·obtain ⟨b,off,spot⟩:=x
    have hspot:spot=none:=by simpa [Addr.add] using World.cell?_spot (i2 0 _ (List.getElem?_eq_getElem h0)).1
    subst hspot
    refine .inr ⟨b,off,rfl,fun i it hi=>?_⟩
    have:=(i2 i it hi).1
    rw [Go.WideShapes.add_plain] at this
    exact this
  ·intro it hit
   obtain ⟨i,hi⟩:=List.getElem?_of_mem hit
   exact (i2 i it hi).2
end Go.Proofs.YtbdhlfklcdegdaaGreatDoor

namespace Go.Proofs.YtbdhlfklcdegdaaGreatDoor
open Go Go.RowKit Go.Deep Go.Shelf
theorem LV.at {w:World} {p:Option Addr} {A:List Va.Vl} (h:LV w p A) (i:Nat) (hi:i<A.length):∃b off,p=some ⟨b,off,none⟩∧VCells w b (off+i*3) A[i]:=by
 rcases h with h | ⟨b,off,e,h⟩
 ·subst h;simp at hi
 ·exact ⟨b,off,e,h i _ (List.getElem?_eq_getElem hi)⟩
theorem LS.at {w:World} {p:Option Addr} {A:List ByteArray} (h:LS w p A) (i:Nat) (hi:i<A.length):∃b off,p=some ⟨b,off,none⟩∧w.cell? ⟨b,off+i,none⟩=some (.string A[i]):=by
 rcases h with h | ⟨b,off,e,h⟩
 ·subst h;simp at hi
 ·exact ⟨b,off,e,h i _ (List.getElem?_eq_getElem hi)⟩
set_option maxRecDepth 100000 in
set_option maxHeartbeats 4000000 in
theorem vstrings_law (a0 a1:Option Addr) (cap0 cap1:Nat) (vs:List Va.Vl) (fs:List ByteArray) (w:World) (hT:Tab w∧Tab10 w) (hv:LV w a0 vs) (hf:LS w a1 fs) (wv:∀q∈vs,VlW q) (wf:∀s∈fs,s.size≤16777216) (nv:vs.length≤16777216) (nf:fs.length≤16777216):
  Calls Tryz.prog 5 #[.slice a0 vs.length cap0,.slice a1 fs.length cap1] w fun e w'=>e=.returned (.bool true)∧Below w.heap.size w w':=by
 have ST:Hid (∀(W:World) (k n:Int) (t s:ByteArray),Below w.heap.size w W→0≤n→n<18446744073709551616→t.size≤140737488355328→s.size≤16777216→Calls Tryz.prog 12 #[.agg #[.int .i64 k,.int .u64 n,.string t],.string s] W fun e w'=>e=.returned (.bool true)∧Below W.heap.size W w'):=fun W k n t s h n0 n1 tl sl=>
  vstrs_any k n t s _ _ W (hT.1.below h) (Tab10.bel hT.2 h) n0 n1 (Str.self t) (by rw [←(Str.self t).size];exact tl) (Str.self s) (by rw [←(Str.self s).size];exact sl)
 have SA:Hid (∀W,Below w.heap.size w W→Calls Tryz.prog 12 #[.agg #[.int .i64 1,.int .u64 4602678819172646912,.string ⟨#[]⟩],.string ⟨#[37,46,54,103]⟩] W fun e w'=>e=.returned (.bool true)∧Below W.heap.size W w'):=fun W h=>ST.out W _ _ _ _ h (by omega) (by omega) (by decide) (by decide)
 have SB:Hid (∀W,Below w.heap.size w W→Calls Tryz.prog 12 #[.agg #[.int .i64 1,.int .u64 4607182418800017408,.string ⟨#[]⟩],.string ⟨#[37,46,54,103]⟩] W fun e w'=>e=.returned (.bool true)∧Below W.heap.size W w'):=fun W h=>ST.out W _ _ _ _ h (by omega) (by omega) (by decide) (by decide)
 have SV:Hid (∀(i:Nat) (hi:i<vs.length) (s:ByteArray),s.size≤16777216→∀W,Below w.heap.size w W→Calls Tryz.prog 12 #[.agg #[.int .i64 vs[i].k,.int .u64 vs[i].n,.string (strOfNums vs[i].s)],.string s] W fun e w'=>e=.returned (.bool true)∧Below W.heap.size W w'):=fun i hi s hs W h=>by
  obtain ⟨x1,x2,x3⟩:=wv _ (List.getElem_mem hi)
  exact ST.out W _ _ _ _ h x2.1 x2.2 (by rw [(Str.of_nums x1).size];omega) hs
 have FS:Hid (∀(j:Nat) (hj:j<fs.length),fs[j].size≤16777216):=fun j hj=>wf _ (List.getElem_mem hj)
 have HV:=hid hv
 have HF:=hid hf
 have NV:=hid nv
 clear hT hv hf wv wf nv ST
 go_enter Tryz.func5,Tryz.ntmps5
 go_wp2_with fail
 refine (SA.out _ (Below.refl _ _)).mono ?_
 rintro e w1 ⟨rfl,b1⟩
 have B1:=hid b1
 clear b1 SA
 go_wp2_with fail
 refine (SB.out _ B1.out).mono ?_
 rintro e w2 ⟨rfl,b2⟩
 have B2:=hid (below_on B1.out b2)
 clear b2 B1 SB
 go_wp2_with fail
 go_loopg [5,6] vs.length (fun m iv _ wr=>∃i:Nat,i+m=vs.length∧iv=.int .i64 (i:Int)∧Hid (Below w.heap.size w wr))
 case atStart=>exact ⟨0,by omega,rfl,B2.out⟩
 case round=>
  obtain ⟨i,hi,rfl,I⟩:=hrel
  by_cases hl:i<vs.length
  ·have hli:(i:Int)<(vs.length:Int):=by omega
   have ib:(i:Int)≤16777216:=by have:=NV.out;omega
   obtain ⟨b,off,rfl,c0,c1,c2⟩:=(HV.out.below I.out).at i hl
   have S:=hid (SV.out i hl)
   generalize strOfNums vs[i].s=t at *
   generalize vs[i].k=k at *
   generalize vs[i].n=n at *
   go_wp2_with fail
   refine (S.out _ (by decide) _ I.out).mono ?_
   rintro e w3 ⟨rfl,b3⟩
   have I3:=hid (below_on I.out b3)
   have c0:=vcell_below c0 b3 (cell_lt c0)
   have c1:=vcell_below c1 b3 (cell_lt c1)
   have c2:=vcell_below c2 b3 (cell_lt c2)
   clear b3 I
   go_wp2_with fail
   refine (S.out _ (by decide) _ I3.out).mono ?_
   rintro e w4 ⟨rfl,b4⟩
   have I4:=hid (below_on I3.out b4)
   have C4:=hid (And.intro (vcell_below c0 b4 (cell_lt c0)) (And.intro (vcell_below c1 b4 (cell_lt c1)) (vcell_below c2 b4 (cell_lt c2))))
   clear b4 I3 c0 c1 c2
   go_wp2_with fail
   go_loopg [6] fs.length (fun m jv wr=>∃j:Nat,j+m=fs.length∧jv=.int .i64 (j:Int)∧Hid (Below w.heap.size w wr∧Below w4.heap.size w4 wr))
   case atStart=>exact ⟨0,by omega,rfl,I4.out,Below.refl _ _⟩
   case round=>
    obtain ⟨j,hj,rfl,J⟩:=hrel
    have NF:=hid nf
    by_cases jl:j<fs.length
    ·have hlj:(j:Int)<(fs.length:Int):=by omega
     have jb:(j:Int)≤16777216:=by have:=NF.out;omega
     by_cases j12:(j:Int)<12
     ·obtain ⟨b',off',rfl,d0⟩:=(HF.out.below J.out.1).at j jl
      have sl:=hid (FS.out j jl)
      generalize fs[j]=s at *
      obtain ⟨c0,c1,c2⟩:=C4.out
      have c0:=vcell_below c0 J.out.2 (cell_lt c0)
      have c1:=vcell_below c1 J.out.2 (cell_lt c1)
      have c2:=vcell_below c2 J.out.2 (cell_lt c2)
      have JD:=hid (And.intro (below_drew1 J.out.1) (below_drew1 J.out.2))
      have g0:wr.drew.cell? ⟨b,off+i*3,none⟩=some (.int .i64 k):=c0
      have g1:wr.drew.cell? ⟨b,off+i*3+1,none⟩=some (.int .u64 n):=c1
      have g2:wr.drew.cell? ⟨b,off+i*3+2,none⟩=some (.string t):=c2
      have g3:wr.drew.cell? ⟨b',off'+j,none⟩=some (.string s):=d0
      go_wp2_with fail
      clear J C4 HV HF FS
      go_region_with (go_at_call 12;refine (S.out _ sl.out _ JD.out.1).mono ?_;rintro e w5 ⟨rfl,b5⟩;have J5:=hid (And.intro (below_on JD.out.1 b5) (below_on JD.out.2 b5));clear b5)
      all_goals
       go_wp2_with fail
       go_roundg (fs.length - (j+1))
       case measure=>omega
       case rel=>exact ⟨j+1,by omega,by go_num,J5.out⟩
     ·go_wp2_with fail
      go_roundg (vs.length - (i+1))
      case measure=>omega
      case rel=>exact ⟨i+1,by omega,by go_num,J.out.1⟩
    ·have hlj:¬(j:Int)<(fs.length:Int):=by omega
     go_wp2_with fail
     go_roundg (vs.length - (i+1))
     case measure=>omega
     case rel=>exact ⟨i+1,by omega,by go_num,J.out.1⟩
  ·have hli:¬(i:Int)<(vs.length:Int):=by omega
   go_wp2_with fail
   go_ret
   exact ⟨rfl,I.out⟩
end Go.Proofs.YtbdhlfklcdegdaaGreatDoor
