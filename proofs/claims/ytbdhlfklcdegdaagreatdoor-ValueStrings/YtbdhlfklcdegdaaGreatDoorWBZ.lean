/-
  Texts put together: PoE, RnOneA, RnOB, VaD, PoR0, PoR1, PoR2, PoR3, PoR4, PoR5, PoR6N, PoR6.
-/
import Derived.Test.YtbdhlfklcdegdaaGreatDoorWBY
import Derived.Test.YtbdhlfklcdegdaaGreatDoorWBU
import Derived.Test.YtbdhlfklcdegdaaGreatDoorWAP
import Derived.Test.YtbdhlfklcdegdaaGreatDoorWBA
import Derived.Test.YtbdhlfklcdegdaaGreatDoorWBX
import Derived.Test.YtbdhlfklcdegdaaGreatDoorWAH
import Derived.Deep.LoopGhost
import Derived.OwnWalk
import Derived.Deep.DeepCutAuto
import Derived.Deep.CutBlock
import Derived.Test.YtbdhlfklcdegdaaGreatDoorWBW
import Derived.Test.YtbdhlfklcdegdaaGreatDoorWAZ
import Derived.Test.YtbdhlfklcdegdaaGreatDoorWAQ
import Derived.Test.YtbdhlfklcdegdaaGreatDoorQRef7
import Derived.Test.YtbdhlfklcdegdaaGreatDoorWBO
import Derived.BigQuiet
namespace Go.Proofs.YtbdhlfklcdegdaaGreatDoor
open Go Go.RowKit Go.Deep Go.Shelf
def SpcTold (V F W P d:Int) (w:World) (e:Ending) (w':World):Prop:=e=.returned (.tuple #[.string (strOfNums (Po.spc V F W P d)),.bool (Po.spb F W P d),.int .i64 (Wh.chk F W P)])∧Below w.heap.size w w'
def RenTold (V F W P d:Int) (w:World) (e:Ending) (w':World):Prop:=e=.returned (.tuple #[.string (strOfNums (Po.ren V F W P d)),.int .i64 (Po.renE V F W P)])∧Below w.heap.size w w'
theorem pad_small {F W P:Int} {z:Bool} {h b:List Int} (hl:h.length+b.length≤16777216):Wh.padE F W P h b=Wh.chk F W P∧Wh.pad F W P z h b=(if Wh.chk F W P=0 then Wh.padT F W z h b else []):=by
 have e:Wh.padE F W P h b=Wh.chk F W P:=by
  unfold Wh.padE
  by_cases c:Wh.chk F W P=0
  ·rw [if_pos c,if_neg (by omega),c]
  ·rw [if_neg c]
 exact ⟨e,by rw [Wh.pad,e]⟩
set_option maxRecDepth 100000 in
set_option maxHeartbeats 4000000 in
theorem special_any (V F W P d:Int) (w:World) (v0:0≤V) (v1:V<256) (h0:0≤d) (h1:d<18446744073709551616):
  Calls Tryz.prog 72 #[.agg #[.int .u8 V,.int .i64 F,.int .i64 W,.int .i64 P],.int .u64 d] w fun e w'=>SpcTold V F W P d w e w':=by
 have B0:=hid (SB.new w V F W P)
 have SG:=hid (fun wk=>psign_any V F W P d wk h0 h1)
 have NM:=hid (fun wk=>pname_any V d wk v0 v1 h0 h1)
 have FN:=hid (fun wk=>pfin_any d wk h0 h1)
 have sb:=Po.sx_by F (Po.ng d)
 have nb:=Po.nm_by (Po.cap V) (Ie.cls d)
 have nl:=Po.nm_len (Po.cap V) (Ie.cls d)
 have PA:Hid (∀wk,Calls Tryz.prog 73 #[.agg #[.int .u8 V,.int .i64 F,.int .i64 W,.int .i64 P],.string (strOfNums (Po.sx F (Po.ng d))),.string (strOfNums (Po.nm (Po.cap V) (Ie.cls d))),.bool false] wk fun e w'=>e=.returned (.tuple #[.string (strOfNums (if Wh.chk F W P=0 then Wh.padT F W false (Po.sx F (Po.ng d)) (Po.nm (Po.cap V) (Ie.cls d)) else [])),.int .i64 (Wh.chk F W P)])∧Below wk.heap.size wk w'):=by
  intro wk
  refine (pad_any V F W P _ _ false wk sb.1 nb (by omega) (by omega)).mono ?_
  rintro e w' ⟨rfl,k⟩
  obtain ⟨e1,e2⟩:=pad_small (F:=F) (W:=W) (P:=P) (z:=false) (h:=Po.sx F (Po.ng d)) (b:=Po.nm (Po.cap V) (Ie.cls d)) (by omega)
  exact ⟨by rw [e1,e2],k⟩
 have G1:Hid (∀w' ,Wh.chk F W P≠0→Below w.heap.size w w'→SpcTold V F W P d w (.returned (.tuple #[.string ⟨#[]⟩,.bool false,.int .i64 (Wh.chk F W P)])) w'):=by
  intro w' h k
  refine ⟨?_,k⟩
  rw [Po.spc,if_neg (fun q=>h q.1),Po.spb,decide_eq_false h]
  rfl
 have G2:Hid (∀w' ,Wh.chk F W P=0→Ie.fnt d=true→Below w.heap.size w w'→SpcTold V F W P d w (.returned (.tuple #[.string ⟨#[]⟩,.bool false,.int .i64 0])) w'):=by
  intro w' h f k
  refine ⟨?_,k⟩
  rw [Po.spc,if_neg (fun q=>by rw [f] at q;exact Bool.false_ne_true q.2.symm),Po.spb,f,h]
  rfl
 have G3:Hid (∀w' ,Wh.chk F W P=0→Ie.fnt d=false→Below w.heap.size w w'→SpcTold V F W P d w (.returned (.tuple #[.string (strOfNums (if Wh.chk F W P=0 then Wh.padT F W false (Po.sx F (Po.ng d)) (Po.nm (Po.cap V) (Ie.cls d)) else [])),.bool true,.int .i64 0])) w'):=by
  intro w' h f k
  refine ⟨?_,k⟩
  obtain ⟨⟨f0,f1⟩,-,-⟩:=Wh.chk_ok h
  rw [if_pos h,Po.spc,if_pos ⟨h,f⟩,Po.spb,f,h,Po.sx_is _ f0 f1]
  rfl
 generalize (if Wh.chk F W P=0 then Wh.padT F W false (Po.sx F (Po.ng d)) (Po.nm (Po.cap V) (Ie.cls d)) else [])=T at *
 generalize Po.sx F (Po.ng d)=SX at *
 generalize Po.nm (Po.cap V) (Ie.cls d)=NX at *
 clear v0 v1 h0 h1 sb nb nl
 generalize Wh.chk F W P=E at *
 generalize Ie.fnt d=fd at *
 go_enter Tryz.func72,Tryz.ntmps72
 go_upto_region 1 with fail
 have T1:=hid B0.out.drew
 go_region_held3 (fun wx=>wx.cell? ⟨w.heap.size,0,none⟩=some (.int .u8 V)∧wx.cell? ⟨w.heap.size,1,none⟩=some (.int .i64 F)∧wx.cell? ⟨w.heap.size,2,none⟩=some (.int .i64 W)∧wx.cell? ⟨w.heap.size,3,none⟩=some (.int .i64 P)) (first | (with_reducible exact T4.out.flat) | (with_reducible exact T3.out.flat) | (with_reducible exact T2.out.flat) | (with_reducible exact T1.out.flat)) (first
  | (go_at_call 74;with_reducible refine (SG.out _).mono ?_;rintro e wa ⟨rfl,hB⟩;have T2:=hid (T1.out.on hB);clear hB)
  | (go_at_call 107;with_reducible refine (NM.out _).mono ?_;rintro e wb ⟨rfl,hB⟩;have T3:=hid (T2.out.on hB);clear hB)
  | (go_at_call 73;with_reducible refine (PA.out _).mono ?_;rintro e wc ⟨rfl,hB⟩;have T4:=hid (T3.out.on hB);clear hB))
 by_cases hE:E=0
 ·subst hE
  cases fd with
  | true=>
   have R:=hid (G2.out wc rfl rfl T4.out.bel)
   clear G1 G2 G3
   go_wp2_with (go_at_call 108;refine (FN.out _).mono ?_;rintro e w' ⟨rfl,hw⟩;rw [hw];clear hw w')
   go_ret3
   exact R.out
  | false=>
   have R:=hid (G3.out wc rfl rfl T4.out.bel)
   clear G1 G2 G3
   go_wp2_with (go_at_call 108;refine (FN.out _).mono ?_;rintro e w' ⟨rfl,hw⟩;rw [hw];clear hw w')
   go_ret3
   exact R.out
 ·have hne:(E == 0)=false:=by simpa using hE
  have hne2:(E != 0)=true:=by simpa using hE
  have R:=hid (G1.out wc hE T4.out.bel)
  clear G1 G2 G3 hE
  go_wp2_with fail
  go_ret3
  exact R.out
set_option maxRecDepth 100000 in
set_option maxHeartbeats 4000000 in
theorem render_any (V F W P d:Int) (w:World) (hT:Tab w) (v0:0≤V) (v1:V<256) (h0:0≤d) (h1:d<18446744073709551616):
  Calls Tryz.prog 29 #[.agg #[.int .u8 V,.int .i64 F,.int .i64 W,.int .i64 P],.int .u64 d] w fun e w'=>RenTold V F W P d w e w':=by
 have B0:=hid (SB.new w V F W P)
 have IX:=hid (fun w=>Any.strings_IndexByte idxLays ⟨#[101,69,102,70,103,71]⟩ V w)
 have OK:=ok_ix V v0 v1
 obtain ⟨ix,hix⟩:∃ix,Lib.indexByte (⟨#[101,69,102,70,103,71]⟩:ByteArray).data.toList V.toNat.toUInt8=ix:=⟨_,rfl⟩
 rw [hix] at IX OK
 clear hix
 by_cases hV:Po.okV V=true
 ·rw [hV] at OK
  have ix0:¬ix<0:=by simpa using OK
  have hR:Po.renE V F W P=Wh.chk F W P:=by rw [Po.renE,if_pos hV]
  have SP:=hid (fun wk=>special_any V F W P d wk v0 v1 h0 h1)
  by_cases hc:Wh.chk F W P=0
  ·obtain ⟨⟨f0,f1⟩,-,⟨p0,p1⟩⟩:=Wh.chk_ok hc
   by_cases hf:Ie.fnt d=true
   ·have sp1:Po.spb F W P d=false:=by rw [Po.spb,hf];simp
    have SG:Hid (∀wk,Calls Tryz.prog 74 #[.agg #[.int .u8 V,.int .i64 F,.int .i64 W,.int .i64 P],.int .u64 d] wk fun e w'=>e=.returned (.string (strOfNums (Wh.sgn F (Po.ng d))))∧Below wk.heap.size wk w'):=by
     intro wk
     have q:=psign_any V F W P d wk h0 h1
     rw [Po.sx_is _ f0 f1] at q
     exact q
    have TB:Hid (∀wk,Below w.heap.size w wk→Tab wk):=fun wk k=>hT.below k
    have BO:=hid (fun wk (k:Tab wk)=>pbody_any V F W P d wk k v0 v1 f0 f1 p0 p1 h0 h1 hf)
    obtain ⟨bb,bl⟩:=Po.bd_ok (V:=V) (P:=P) (d:=d) (Wh.bit F 8) hf p0 p1
    have sl:=Wh.sgn_len F (Po.ng d)
    have PA:Hid (∀wk,Calls Tryz.prog 73 #[.agg #[.int .u8 V,.int .i64 F,.int .i64 W,.int .i64 P],.string (strOfNums (Wh.sgn F (Po.ng d))),.string (strOfNums (Po.bd V (Wh.bit F 8) P d)),.bool true] wk fun e w'=>e=.returned (.tuple #[.string (strOfNums (Po.ren V F W P d)),.int .i64 0])∧Below wk.heap.size wk w'):=by
     intro wk
     refine (pad_any V F W P _ _ true wk (Wh.sgn_by _ _) bb (by omega) (by omega)).mono ?_
     rintro e w' ⟨rfl,k⟩
     obtain ⟨e1,e2⟩:=pad_small (F:=F) (W:=W) (P:=P) (z:=true) (h:=Wh.sgn F (Po.ng d)) (b:=Po.bd V (Wh.bit F 8) P d) (by omega)
     refine ⟨?_,k⟩
     rw [e1,e2,hc,if_pos rfl,Po.ren,hR,if_pos hc,if_pos hf]
    have G:Hid (∀w',Below w.heap.size w w'→RenTold V F W P d w (.returned (.tuple #[.string (strOfNums (Po.ren V F W P d)),.int .i64 0])) w'):=fun w' k=>⟨by rw [hR,hc],k⟩
    unfold SpcTold at SP
    rw [sp1,hc] at SP
    clear hT v0 v1 h0 h1 hV OK hR hc hf f0 f1 p0 p1 bb bl sl sp1
    generalize Po.spc V F W P d=SC at *
    generalize Po.ren V F W P d=RN at *
    generalize Po.bd V (Wh.bit F 8) P d=BD' at *
    generalize Wh.sgn F (Po.ng d)=SN at *
    go_enter Tryz.func29,Tryz.ntmps29
    go_wp2_with (go_at_call 69;refine (IX.out _).mono ?_;rintro e w2 ⟨rfl,rfl⟩)
    with_reducible refine (SP.out _).mono ?_
    rintro e w1 ⟨rfl,b1⟩
    have B1:=hid (B0.out.on b1)
    clear b1 B0 SP IX
    obtain ⟨c0,c1,c2,c3⟩:=B1.out.flat
    go_upto_region 6 with fail
    clear c0 c1 c2 c3
    have T1:=hid B1.out.drew
    go_region_held3 (fun wx=>wx.cell? ⟨w.heap.size,0,none⟩=some (.int .u8 V)∧wx.cell? ⟨w.heap.size,1,none⟩=some (.int .i64 F)∧wx.cell? ⟨w.heap.size,2,none⟩=some (.int .i64 W)∧wx.cell? ⟨w.heap.size,3,none⟩=some (.int .i64 P)) (first | (with_reducible exact T4.out.flat) | (with_reducible exact T3.out.flat) | (with_reducible exact T2.out.flat) | (with_reducible exact T1.out.flat)) (first
     | (go_at_call 74;with_reducible refine (SG.out _).mono ?_;rintro e wa ⟨rfl,hB⟩;have T2:=hid (T1.out.on hB);have K2:=hid (TB.out _ T2.out.bel);clear hB)
     | (go_at_call 75;with_reducible refine (BO.out _ K2.out).mono ?_;rintro e wb ⟨rfl,hB⟩;have T3:=hid (T2.out.on hB);clear hB)
     | (go_at_call 73;with_reducible refine (PA.out _).mono ?_;rintro e wc ⟨rfl,hB⟩;have T4:=hid (T3.out.on hB);clear hB))
    go_wp2_with fail
    go_ret2
    exact G.out _ T4.out.bel
   ·have hf':Ie.fnt d=false:=by simpa using hf
    have sp1:Po.spb F W P d=true:=by rw [Po.spb,hf',hc];rfl
    have sp2:Po.spc V F W P d=Po.ren V F W P d:=by rw [Po.spc,if_pos ⟨hc,hf'⟩,Po.ren,hR,if_pos hc,if_neg hf]
    have G:Hid (∀w',Below w.heap.size w w'→RenTold V F W P d w (.returned (.tuple #[.string (strOfNums (Po.ren V F W P d)),.int .i64 0])) w'):=fun w' k=>⟨by rw [hR,hc],k⟩
    unfold SpcTold at SP
    rw [sp1,sp2,hc] at SP
    clear hT v0 v1 h0 h1 hV OK hR hc hf hf' f0 f1 p0 p1 sp1 sp2
    generalize Po.ren V F W P d=RN at *
    go_enter Tryz.func29,Tryz.ntmps29
    go_wp2_with (go_at_call 69;refine (IX.out _).mono ?_;rintro e w2 ⟨rfl,rfl⟩)
    with_reducible refine (SP.out _).mono ?_
    rintro e w1 ⟨rfl,b1⟩
    have R:=hid (G.out _ (B0.out.on b1).bel)
    clear b1 B0 SP IX G
    go_wp2_with fail
    go_ret2
    exact R.out
  ·have sp1:Po.spb F W P d=false:=by rw [Po.spb,decide_eq_false hc];rfl
   have sp2:Po.spc V F W P d=Po.ren V F W P d:=by rw [Po.spc,if_neg (fun q=>hc q.1),Po.ren,hR,if_neg hc]
   have G:Hid (∀w',Below w.heap.size w w'→RenTold V F W P d w (.returned (.tuple #[.string (strOfNums (Po.ren V F W P d)),.int .i64 (Wh.chk F W P)])) w'):=fun w' k=>⟨by rw [hR],k⟩
   unfold SpcTold at SP
   rw [sp1,sp2] at SP
   have hne:(Wh.chk F W P == 0)=false:=by simpa using hc
   have hne2:(Wh.chk F W P != 0)=true:=by simpa using hc
   clear hT v0 v1 h0 h1 hV OK hR hc sp1 sp2
   generalize Po.ren V F W P d=RN at *
   generalize Wh.chk F W P=E at *
   go_enter Tryz.func29,Tryz.ntmps29
   go_wp2_with (go_at_call 69;refine (IX.out _).mono ?_;rintro e w2 ⟨rfl,rfl⟩)
   with_reducible refine (SP.out _).mono ?_
   rintro e w1 ⟨rfl,b1⟩
   have R:=hid (G.out _ (B0.out.on b1).bel)
   clear b1 B0 SP IX G
   go_wp2_with fail
   go_ret2
   exact R.out
 ·have hV':Po.okV V=false:=by simpa using hV
  rw [hV'] at OK
  have ix0:ix<0:=by simpa using OK
  have hR:Po.renE V F W P=140:=by rw [Po.renE,if_neg hV]
  have G:Hid (∀w',Below w.heap.size w w'→RenTold V F W P d w (.returned (.tuple #[.string ⟨#[]⟩,.int .i64 140])) w'):=fun w' k=>⟨by rw [Po.ren,hR,if_neg (by decide)];rfl,k⟩
  have R:=hid (G.out _ B0.out.bel)
  clear hT v0 v1 h0 h1 hV hV' OK hR G
  go_enter Tryz.func29,Tryz.ntmps29
  go_wp2_with (go_at_call 69;refine (IX.out _).mono ?_;rintro e w2 ⟨rfl,rfl⟩)
  go_ret2
  exact R.out
end Go.Proofs.YtbdhlfklcdegdaaGreatDoor

namespace Go.Proofs.YtbdhlfklcdegdaaGreatDoor
open Go Go.RowKit Go.Deep Go.Shelf
set_option maxRecDepth 100000 in
theorem rcheck_any (V F W P:Int) (w:World) (v0:0≤V) (v1:V<256):
  Calls Tryz.prog 142 #[.agg #[.int .u8 V,.int .i64 F,.int .i64 W,.int .i64 P]] w fun e w'=>e=.returned (.int .i64 (if Dr.idx Dr.verbs V<0 then 140 else Wh.chk F W P))∧Below w.heap.size w w':=by
 have B0:=hid (SB.new w V F W P)
 have IX:=hid (fun wk=>idx_any ⟨#[100,105,111,117,120,88,99,115,101,69,102,70,103,71]⟩ Dr.verbs V wk rfl v0 v1)
 have PA:Hid (∀wk,Calls Tryz.prog 73 #[.agg #[.int .u8 V,.int .i64 F,.int .i64 W,.int .i64 P],.string ⟨#[]⟩,.string ⟨#[]⟩,.bool false] wk fun e w'=>∃t,e=.returned (.tuple #[.string t,.int .i64 (Wh.chk F W P)])∧Below wk.heap.size wk w'):=by
  intro wk
  refine (pad_any V F W P [] [] false wk Wh.By.nil Wh.By.nil (by simp) (by simp)).mono ?_
  rintro e w' ⟨rfl,k⟩
  rw [(pad_small (F:=F) (W:=W) (P:=P) (z:=false) (h:=[]) (b:=[]) (by simp)).1]
  exact ⟨_,rfl,k⟩
 generalize Dr.idx Dr.verbs V=ix at *
 generalize Wh.chk F W P=E at *
 clear v0 v1
 by_cases h:ix<0
 ·rw [if_pos h]
  have R:=hid B0.out.bel
  clear PA B0
  go_enter Tryz.func142,Tryz.ntmps142
  go_wp2_with (go_at_call 69;refine (IX.out _).mono ?_;rintro e w2 ⟨rfl,rfl⟩)
  go_ret
  exact ⟨rfl,R.out⟩
 ·rw [if_neg h]
  go_enter Tryz.func142,Tryz.ntmps142
  go_wp2_with (go_at_call 69;refine (IX.out _).mono ?_;rintro e w2 ⟨rfl,rfl⟩)
  with_reducible refine (PA.out _).mono ?_
  rintro e w1 ⟨t,rfl,b1⟩
  have R:=hid (B0.out.on b1).bel
  clear PA IX B0 b1
  go_wp2_with fail
  go_ret
  exact ⟨rfl,R.out⟩
set_option maxRecDepth 100000 in
theorem takes_any (V:Int) (x:Bool) (n:Int) (s:ByteArray) (w:World):
  Calls Tryz.prog 143 #[.int .u8 V,.agg #[.bool x,.int .u64 n,.string s]] w fun e w'=>e=.returned (.bool (decide (V=99)||(x == decide (V=115))))∧Below w.heap.size w w':=by
 have R:=hid (alloc_b w (.cells #[.bool x,.int .u64 n,.string s] 132))
 by_cases h:V=99
 ·subst h
  go_enter Tryz.func143,Tryz.ntmps143
  go_wp2_with fail
  go_ret
  exact ⟨rfl,R.out⟩
 ·have h1:(V == 99)=false:=by simpa using h
  rw [decide_eq_false h,Bool.false_or]
  by_cases k:V=115
  ·subst k
   cases x <;> (go_enter Tryz.func143,Tryz.ntmps143;go_wp2_with fail;go_ret;exact ⟨rfl,R.out⟩)
  ·have h2:(V == 115)=false:=by simpa using k
   rw [decide_eq_false k]
   clear h k
   cases x <;> (go_enter Tryz.func143,Tryz.ntmps143;go_wp2_with fail;go_ret;exact ⟨rfl,R.out⟩)
end Go.Proofs.YtbdhlfklcdegdaaGreatDoor

namespace Go.Proofs.YtbdhlfklcdegdaaGreatDoor
open Go Go.RowKit Go.Deep Go.Shelf
structure OB (w0:World) (V F W P:Int) (x:Bool) (n:Int) (s:ByteArray) (wk:World):Prop where
 bel:Below w0.heap.size w0 wk
 b1:S4 wk w0.heap.size (.int .u8 V) (.int .i64 F) (.int .i64 W) (.int .i64 P)
 b2:wk.heap[w0.heap.size+1]?=some (.cells #[.bool x,.int .u64 n,.string s] 132 (0,0))
theorem OB.new (w:World) (V F W P:Int) (x:Bool) (n:Int) (s:ByteArray):OB w V F W P x n s ((w.alloc (.cells #[.int .u8 V,.int .i64 F,.int .i64 W,.int .i64 P] 58)).alloc (.cells #[.bool x,.int .u64 n,.string s] 132)):=by
 have B:=SB.new w V F W P
 have A:=alloc_b (w.alloc (.cells #[.int .u8 V,.int .i64 F,.int .i64 W,.int .i64 P] 58)) (.cells #[.bool x,.int .u64 n,.string s] 132)
 refine ⟨below_on B.bel A,B.box.below A,?_⟩
 have:=heap_alloc_new (w.alloc (.cells #[.int .u8 V,.int .i64 F,.int .i64 W,.int .i64 P] 58)) (.cells #[.bool x,.int .u64 n,.string s] 132)
 rwa [World.size_alloc] at this
theorem OB.on {w0 wk w':World} {V F W P:Int} {x:Bool} {n:Int} {s:ByteArray} (h:OB w0 V F W P x n s wk) (k:Below wk.heap.size wk w'):OB w0 V F W P x n s w':=by
 have hl:w0.heap.size+1<wk.heap.size:=by
  rcases Nat.lt_or_ge (w0.heap.size+1) wk.heap.size with q | q
  ·exact q
  ·have:=h.b2;rw [Array.getElem?_eq_none q] at this;cases this
 exact ⟨below_on h.bel k,h.b1.below k,by rw [k.block _ hl];exact h.b2⟩
theorem OB.flat {w0 wk:World} {V F W P:Int} {x:Bool} {n:Int} {s:ByteArray} (h:OB w0 V F W P x n s wk):
  (wk.cell? ⟨w0.heap.size,0,none⟩=some (.int .u8 V)∧wk.cell? ⟨w0.heap.size,1,none⟩=some (.int .i64 F)∧wk.cell? ⟨w0.heap.size,2,none⟩=some (.int .i64 W)∧wk.cell? ⟨w0.heap.size,3,none⟩=some (.int .i64 P))∧
  (wk.cell? ⟨w0.heap.size+1,0,none⟩=some (.bool x)∧wk.cell? ⟨w0.heap.size+1,1,none⟩=some (.int .u64 n)∧wk.cell? ⟨w0.heap.size+1,2,none⟩=some (.string s)):=by
 refine ⟨h.b1.cells.1,?_,?_,?_⟩ <;> rw [Lib.cell_of_heap h.b2] <;> rfl
end Go.Proofs.YtbdhlfklcdegdaaGreatDoor

namespace Go.Proofs.YtbdhlfklcdegdaaGreatDoor
open Go Go.RowKit Go.Deep Go.Shelf
theorem pvs_in {V:Int} (h:0≤Dr.idx Dr.pvs V):V=101∨V=69∨V=102∨V=70∨V=103∨V=71:=by
 rcases Dr.idx_cons h with q | q
 ·exact .inl q
 ·rcases Dr.idx_cons q with q | q
  ·exact .inr (.inl q)
  ·rcases Dr.idx_cons q with q | q
   ·exact .inr (.inr (.inl q))
   ·rcases Dr.idx_cons q with q | q
    ·exact .inr (.inr (.inr (.inl q)))
    ·rcases Dr.idx_cons q with q | q
     ·exact .inr (.inr (.inr (.inr (.inl q))))
     ·rcases Dr.idx_cons q with q | q
      ·exact .inr (.inr (.inr (.inr (.inr q))))
      ·simp [Dr.idx] at q
set_option maxRecDepth 100000 in
set_option maxHeartbeats 2000000 in
theorem vone_any (V F W P d:Int) (w:World) (hT:Tab w) (hv:0≤Dr.idx Dr.pvs V) (hc:Wh.chk F W P=0) (h0:0≤d) (h1:d<18446744073709551616):
  Calls Tryz.prog 91 #[.agg #[.int .u8 V,.int .i64 F,.int .i64 W,.int .i64 P],.agg #[.bool false,.int .u64 d,.string ⟨#[]⟩]] w fun e w'=>e=.returned (.tuple #[.string (strOfNums (Po.ren V F W P d)),.int .i64 0])∧Below w.heap.size w w':=by
 have VC:=pvs_in hv
 have vb:0≤V∧V<256:=by rcases VC with z | z | z | z | z | z <;> omega
 have iv:¬Dr.idx Dr.verbs V<0:=by rcases VC with rfl | rfl | rfl | rfl | rfl | rfl <;> decide
 have n9:V≠99:=by rcases VC with z | z | z | z | z | z <;> omega
 have n1:V≠115:=by rcases VC with z | z | z | z | z | z <;> omega
 have iw:Dr.idx [100,105,111,117,120,88] V<0:=by rcases VC with rfl | rfl | rfl | rfl | rfl | rfl <;> decide
 have okv:Po.okV V=true:=decide_eq_true VC
 have CK:Hid (∀wk,Calls Tryz.prog 142 #[.agg #[.int .u8 V,.int .i64 F,.int .i64 W,.int .i64 P]] wk fun e w'=>e=.returned (.int .i64 0)∧Below wk.heap.size wk w'):=fun wk=>by
  have q:=rcheck_any V F W P wk vb.1 vb.2
  rw [if_neg iv,hc] at q
  exact q
 have TK:Hid (∀wk,Calls Tryz.prog 143 #[.int .u8 V,.agg #[.bool false,.int .u64 d,.string ⟨#[]⟩]] wk fun e w'=>e=.returned (.bool true)∧Below wk.heap.size wk w'):=fun wk=>by
  have q:=takes_any V false d ⟨#[]⟩ wk
  rw [decide_eq_false n9,decide_eq_false n1] at q
  exact q
 have IX:=hid (fun wk=>idx_any ⟨#[100,105,111,117,120,88]⟩ [100,105,111,117,120,88] V wk rfl vb.1 vb.2)
 have RE:Hid (∀wk,Tab wk→Calls Tryz.prog 29 #[.agg #[.int .u8 V,.int .i64 F,.int .i64 W,.int .i64 P],.int .u64 d] wk fun e w'=>e=.returned (.tuple #[.string (strOfNums (Po.ren V F W P d)),.int .i64 0])∧Below wk.heap.size wk w'):=fun wk h=>by
  have q:=render_any V F W P d wk h vb.1 vb.2 h0 h1
  have e:Po.renE V F W P=0:=by rw [Po.renE,if_pos okv,hc]
  simp only [RenTold,e] at q
  exact q
 have B0:=hid (OB.new w V F W P false d ⟨#[]⟩)
 have HT:=hid hT
 have e9:(V == 99)=false:=by simpa using n9
 have e1:(V == 115)=false:=by simpa using n1
 clear hv hc h0 h1 VC vb iv n9 n1 okv hT
 generalize Dr.idx [100,105,111,117,120,88] V=ix at *
 generalize strOfNums (Po.ren V F W P d)=S at *
 go_enter Tryz.func91,Tryz.ntmps91
 go_upto_region 1 with fail
 generalize (w.alloc (.cells #[.int .u8 V,.int .i64 F,.int .i64 W,.int .i64 P] 58)).alloc (.cells #[.bool false,.int .u64 d,.string ⟨#[]⟩] 132)=wA at *
 obtain ⟨⟨c0,c1,c2,c3⟩,d0,d1,d2⟩:=B0.out.flat
 go_wp2_with fail
 with_reducible refine (CK.out _).mono ?_
 rintro e w1 ⟨rfl,b1⟩
 have B1:=hid (B0.out.on b1)
 clear b1 B0 CK c0 c1 c2 c3 d0 d1 d2
 obtain ⟨⟨c0,c1,c2,c3⟩,d0,d1,d2⟩:=B1.out.flat
 go_wp2_with fail
 with_reducible refine (TK.out _).mono ?_
 rintro e w2 ⟨rfl,b2⟩
 have B2:=hid (B1.out.on b2)
 clear b2 B1 TK c0 c1 c2 c3 d0 d1 d2
 obtain ⟨⟨c0,c1,c2,c3⟩,d0,d1,d2⟩:=B2.out.flat
 go_wp2_with (go_at_call 69;refine (IX.out _).mono ?_;rintro e w3 ⟨rfl,hw3⟩;rw [hw3];clear hw3 w3)
 with_reducible refine (RE.out _ (HT.out.below B2.out.bel)).mono ?_
 rintro e w4 ⟨rfl,b4⟩
 have F:=hid (B2.out.on b4).bel
 clear b4 B2 RE c0 c1 c2 c3 d0 d1 d2
 go_wp2_with fail
 go_ret2
 exact ⟨rfl,F.out⟩
namespace Va
noncomputable def bod (d:Int) (xs:List Int):List Int:=Po.ren (Dr.sgP xs).v (Dr.sgP xs).fl (Dr.sgP xs).wd (sP (Dr.sgP xs) 0) d
noncomputable def wrE (d:Int) (xs:List Int):Int:=if ok d=true then 0 else if Dr.sgO xs=true then (if 16777216<(Dr.sgA xs).length+(bod d xs).length+(Dr.sgB xs).length then 3 else 0) else 170
noncomputable def wrT (d:Int) (xs:List Int):List Int:=if ok d=true then tx d else if wrE d xs=0 then Dr.sgA xs++bod d xs++Dr.sgB xs else []
end Va
theorem vstr_app {s t:ByteArray} {xs ys:List Int} (h:Str s xs) (k:Str t ys):Str (s++t) (xs++ys):=by
 unfold Str at *
 rw [ByteArray.data_append,Array.toList_append,List.map_append,h,k]
theorem sg_of {xs:List Int} (h:Dr.sgO xs=true):Dr.wants (Dr.prs xs).1=1∧0≤Dr.idx Dr.pvs (Dr.sgP xs).v:=by
 have q:=of_decide_eq_true h
 exact q.2
theorem sg_len {xs:List Int}:(Dr.sgA xs).length≤xs.length∧(Dr.sgB xs).length≤xs.length:=by
 have e:=Dr.pl_prs _ xs (Nat.le_refl _)
 by_cases h:Dr.sgO xs=true
 ·obtain ⟨a,b,_⟩:=Dr.sg_yes h
  rw [a,b]
  refine ⟨Nat.le_trans Dr.pl_le e,Nat.le_trans ?_ e⟩
  have k:Dr.pl (Dr.prs xs).1=Dr.pl ((Dr.prs xs).1.take (Dr.fd (Dr.prs xs).1+1))++Dr.pl ((Dr.prs xs).1.drop (Dr.fd (Dr.prs xs).1+1)):=by rw [←Dr.pl_app,List.take_append_drop]
  rw [k,List.length_append];omega
 ·obtain ⟨a,b,_⟩:=Dr.sg_no (by simpa using h)
  rw [a,b];simp
theorem sg_by {s:ByteArray} {xs:List Int} (hs:Str s xs):(∀x∈Dr.sgA xs,0≤x∧x<256)∧(∀x∈Dr.sgB xs,0≤x∧x<256):=by
 have W:=pcw_prs hs
 by_cases h:Dr.sgO xs=true
 ·obtain ⟨a,b,_⟩:=Dr.sg_yes h
  rw [a,b]
  exact ⟨Dr.pl_mem (fun p hp=>(W p (List.mem_of_mem_take hp)).1),Dr.pl_mem (fun p hp=>(W p (List.mem_of_mem_drop hp)).1)⟩
 ·obtain ⟨a,b,_⟩:=Dr.sg_no (by simpa using h)
  rw [a,b]
  exact ⟨fun x hx=>by simp at hx,fun x hx=>by simp at hx⟩
set_option maxRecDepth 100000 in
set_option maxHeartbeats 2000000 in
theorem vwritten_any (d:Int) (s:ByteArray) (xs:List Int) (w:World) (hT:Tab w) (ht:Tab10 w) (h0:0≤d) (h1:d<18446744073709551616) (hs:Str s xs) (hl:xs.length≤16777216):
  Calls Tryz.prog 50 #[.int .u64 d,.string s] w fun e w'=>e=.returned (.tuple #[.string (strOfNums (Va.wrT d xs)),.int .i64 (Va.wrE d xs)])∧Below w.heap.size w w':=by
 have IN:=hid (vinteger_any d w h0 h1 ht)
 have SG:=hid (fun W=>dsingle_any s xs W hs hl)
 by_cases hk:Va.ok d=true
 ·have F:Hid (Ending.returned (.tuple #[.string (strOfNums (Va.tx d)),.int .i64 0])=Ending.returned (.tuple #[.string (strOfNums (Va.wrT d xs)),.int .i64 (Va.wrE d xs)])):=by rw [Hid,Va.wrT,Va.wrE,if_pos hk,if_pos hk]
  rw [hk] at IN
  clear hk h0 h1 hT ht hs hl SG
  generalize strOfNums (Va.tx d)=S at *
  go_enter Tryz.func50,Tryz.ntmps50
  go_wp2_with fail
  refine IN.out.mono ?_
  rintro e w1 ⟨rfl,b1⟩
  have B:=hid b1
  clear b1 IN
  go_wp2_with fail
  go_ret2
  exact ⟨F.out,B.out⟩
 have hf:Va.ok d=false:=by simpa using hk
 rw [hf] at IN
 by_cases hO:Dr.sgO xs=true
 ·obtain ⟨y1,y2⟩:=sg_of hO
  obtain ⟨z1,z2,z3,z4,z5⟩:=Dr.sg_one y1
  have sy:=Dr.sg_yes hO
  have wb:=Dr.num_bd z2.2.2.2.2.1 (by omega)
  have pb:=Dr.num_bd z2.2.2.2.2.2 (by omega)
  have sv:Dr.sgS xs=#[.int .u8 (Dr.sgP xs).v,.int .i64 (Dr.sgP xs).fl,.int .i64 (Dr.sgP xs).wd,.int .i64 (sP (Dr.sgP xs) 0)]:=by
   rw [sy.2.2,spv,if_pos z5]
   have e:sW (Dr.sgP xs) 0=(Dr.sgP xs).wd:=if_neg z3
   rw [e,if_neg (by omega),if_neg (by omega)]
  have ck:Wh.chk (Dr.sgP xs).fl (Dr.sgP xs).wd (sP (Dr.sgP xs) 0)=0:=by
   have f0:=z2.2.2.1
   have f1:=z2.2.2.2.1
   have p1:-1≤sP (Dr.sgP xs) 0∧sP (Dr.sgP xs) 0≤4096:=by
    unfold sP
    rw [if_neg z4]
    split <;> omega
   unfold Wh.chk
   rw [if_neg (by omega),if_neg (by omega)]
  have SG1:Hid (∀W,Calls Tryz.prog 28 #[.string s] W fun e w'=>e=.returned (.tuple #[.string (strOfNums (Dr.sgA xs)),.agg #[.int .u8 (Dr.sgP xs).v,.int .i64 (Dr.sgP xs).fl,.int .i64 (Dr.sgP xs).wd,.int .i64 (sP (Dr.sgP xs) 0)],.string (strOfNums (Dr.sgB xs)),.bool true])∧Below W.heap.size W w'):=fun W=>by
   have q:=SG.out W
   simp only [SgTold,sv,hO] at q
   exact q
  have ON:Hid (∀W,Below w.heap.size w W→Calls Tryz.prog 91 #[.agg #[.int .u8 (Dr.sgP xs).v,.int .i64 (Dr.sgP xs).fl,.int .i64 (Dr.sgP xs).wd,.int .i64 (sP (Dr.sgP xs) 0)],.agg #[.bool false,.int .u64 d,.string ⟨#[]⟩]] W fun e w'=>e=.returned (.tuple #[.string (strOfNums (Va.bod d xs)),.int .i64 0])∧Below W.heap.size W w'):=fun W h=>vone_any _ _ _ _ d W (hT.below h) y2 ck h0 h1
  have RL:=Po.ren_len (V:=(Dr.sgP xs).v) (F:=(Dr.sgP xs).fl) (W:=(Dr.sgP xs).wd) (P:=sP (Dr.sgP xs) 0) (d:=d)
  have bl:(Va.bod d xs).length≤30000:=RL.1
  have SA:=Str.of_nums (sg_by hs).1
  have SB:=Str.of_nums (sg_by hs).2
  have SC:Str (strOfNums (Va.bod d xs)) (Va.bod d xs):=Str.of_nums RL.2
  have la:=SA.size
  have lb:=SB.size
  have lc:=SC.size
  have ll:=sg_len (xs:=xs)
  have CAT:=vstr_app (vstr_app SA SC) SB
  have AP:strOfNums (Dr.sgA xs)++strOfNums (Va.bod d xs)++strOfNums (Dr.sgB xs)=strOfNums (Dr.sgA xs++Va.bod d xs++Dr.sgB xs):=str_of CAT
  have C1:∀wx,(Op.stringOp .add (strOfNums (Dr.sgA xs)) (strOfNums (Va.bod d xs))).run Tryz.prog wx=.ok (.string (strOfNums (Dr.sgA xs)++strOfNums (Va.bod d xs))) wx:=fun wx=>run_string_add_sum wx _ _ (by omega)
  have C2:∀wx,(Op.stringOp .add (strOfNums (Dr.sgA xs)++strOfNums (Va.bod d xs)) (strOfNums (Dr.sgB xs))).run Tryz.prog wx=.ok (.string (strOfNums (Dr.sgA xs++Va.bod d xs++Dr.sgB xs))) wx:=fun wx=>by rw [←AP];exact run_string_add_sum wx _ _ (by rw [(vstr_app SA SC).size,List.length_append];omega)
  obtain ⟨la1,hla⟩:∃n:Nat,(strOfNums (Dr.sgA xs)).size=n:=⟨_,rfl⟩
  obtain ⟨lb1,hlb⟩:∃n:Nat,(strOfNums (Dr.sgB xs)).size=n:=⟨_,rfl⟩
  obtain ⟨lc1,hlc⟩:∃n:Nat,(strOfNums (Va.bod d xs)).size=n:=⟨_,rfl⟩
  have KE:Hid (Va.wrE d xs=if 16777216<la1+lc1+lb1 then 3 else 0):=by
   rw [Hid,Va.wrE,if_neg hk,if_pos hO,←hla,←hlb,←hlc,la,lb,lc]
  have KT:Hid (Va.wrT d xs=if Va.wrE d xs=0 then Dr.sgA xs++Va.bod d xs++Dr.sgB xs else []):=by rw [Hid,Va.wrT,if_neg hk]
  have ia:(la1:Int)≤16777216:=by omega
  have ib:(lb1:Int)≤16777216:=by omega
  have ic:(lc1:Int)≤30000:=by omega
  clear y1 y2 z1 z2 z3 z4 z5 sy wb pb sv ck RL bl la lb lc ll CAT AP SA SB SC SG hO hf hk h0 h1 hT ht hs hl
  generalize strOfNums (Va.tx d)=S0 at *
  generalize (Dr.sgP xs).v=V at *
  generalize (Dr.sgP xs).fl=F at *
  generalize (Dr.sgP xs).wd=Wd at *
  generalize sP (Dr.sgP xs) 0=P at *
  go_enter Tryz.func50,Tryz.ntmps50
  go_wp2_with fail
  refine IN.out.mono ?_
  rintro e w1 ⟨rfl,b1⟩
  have B1:=hid b1
  clear b1 IN
  go_wp2_with fail
  refine (SG1.out _).mono ?_
  rintro e w2 ⟨rfl,b2⟩
  have aX:=alloc_b w2 (.cells #[.int .u8 V,.int .i64 F,.int .i64 Wd,.int .i64 P] 58)
  have B2:=hid (below_on (below_on B1.out b2) aX)
  have X2:=hid (S4.new w2 (.int .u8 V) (.int .i64 F) (.int .i64 Wd) (.int .i64 P))
  clear b2 aX B1 SG1
  go_upto_region 7 with fail
  generalize w2.alloc (.cells #[.int .u8 V,.int .i64 F,.int .i64 Wd,.int .i64 P] 58)=w3 at *
  obtain ⟨⟨c0,c1,c2,c3⟩,-⟩:=X2.out.cells
  go_wp2_with fail
  refine (ON.out _ B2.out).mono ?_
  rintro e w4 ⟨rfl,b4⟩
  have B4:=hid (below_on B2.out b4)
  clear b4 B2 ON X2 c0 c1 c2 c3
  by_cases hlong:16777216<la1+lc1+lb1
  ·have hli:(16777216:Int)<(la1:Int)+(lc1:Int)+(lb1:Int):=by omega
   have F:Hid (Ending.returned (.tuple #[.string ⟨#[]⟩,.int .i64 3])=Ending.returned (.tuple #[.string (strOfNums (Va.wrT d xs)),.int .i64 (Va.wrE d xs)])):=by
    show _=_
    rw [KT.out,KE.out,if_pos hlong];rfl
   clear KT KE C1 C2 hlong
   go_wp2_with fail
   go_ret2
   exact ⟨F.out,B4.out⟩
  ·have hli:¬(16777216:Int)<(la1:Int)+(lc1:Int)+(lb1:Int):=by omega
   have F:Hid (Ending.returned (.tuple #[.string (strOfNums (Dr.sgA xs++Va.bod d xs++Dr.sgB xs)),.int .i64 0])=Ending.returned (.tuple #[.string (strOfNums (Va.wrT d xs)),.int .i64 (Va.wrE d xs)])):=by
    show _=_
    rw [KT.out,KE.out,if_neg hlong];rfl
   clear KT KE hlong
   generalize strOfNums (Dr.sgA xs++Va.bod d xs++Dr.sgB xs)=S4 at *
   generalize strOfNums (Dr.sgA xs)=S1 at *
   generalize strOfNums (Dr.sgB xs)=S2 at *
   generalize strOfNums (Va.bod d xs)=S3 at *
   go_wp2_with fail
   go_ret2
   exact ⟨F.out,B4.out⟩
 ·have hof:Dr.sgO xs=false:=by simpa using hO
  have F:Hid (Ending.returned (.tuple #[.string ⟨#[]⟩,.int .i64 170])=Ending.returned (.tuple #[.string (strOfNums (Va.wrT d xs)),.int .i64 (Va.wrE d xs)])):=by
   show _=_
   have e:Va.wrE d xs=170:=by rw [Va.wrE,if_neg hk,if_neg hO]
   rw [Va.wrT,if_neg hk,e];rfl
  have SG1:Hid (∀W,Calls Tryz.prog 28 #[.string s] W fun e w'=>e=.returned (.tuple #[.string ⟨#[]⟩,.agg #[.int .u8 0,.int .i64 0,.int .i64 0,.int .i64 0],.string ⟨#[]⟩,.bool false])∧Below W.heap.size W w'):=fun W=>by
   have q:=SG.out W
   obtain ⟨n1,n2,n3⟩:=Dr.sg_no hof
   simp only [SgTold,n1,n2,n3,hof] at q
   exact q
  clear SG hO hof hf hk h0 h1 hT ht hs hl
  generalize strOfNums (Va.tx d)=S0 at *
  go_enter Tryz.func50,Tryz.ntmps50
  go_wp2_with fail
  refine IN.out.mono ?_
  rintro e w1 ⟨rfl,b1⟩
  have B1:=hid b1
  clear b1 IN
  go_wp2_with fail
  refine (SG1.out _).mono ?_
  rintro e w2 ⟨rfl,b2⟩
  have B2:=hid (below_on (below_on B1.out b2) (alloc_b w2 (.cells #[.int .u8 0,.int .i64 0,.int .i64 0,.int .i64 0] 58)))
  clear b2 B1 SG1
  go_wp2_with fail
  go_ret2
  exact ⟨F.out,B2.out⟩
end Go.Proofs.YtbdhlfklcdegdaaGreatDoor

namespace Go.Proofs.YtbdhlfklcdegdaaGreatDoor
open Go Go.RowKit Go.Deep Go.Shelf
set_option maxRecDepth 100000 in
theorem xhas_any (F k:Int) (w:World) (h0:0≤F) (h1:F≤31) (hk:k=1∨k=2∨k=4∨k=8∨k=16):
  Calls Tryz.prog 198 #[.int .i64 F,.int .i64 k] w fun e w'=>e=.returned (.bool (Wh.bit F k))∧w'=w:=by
 have e1:F.tdiv k=F/k:=by rw [Int.tdiv_eq_ediv_of_nonneg h0]
 have e2:(F/k).tmod 2=F/k%2:=by rw [Int.tmod_eq_emod_of_nonneg (Int.ediv_nonneg h0 (by omega))]
 have b1:0≤F/k:=Int.ediv_nonneg h0 (by omega)
 have b2:F/k≤31:=by rcases hk with rfl | rfl | rfl | rfl | rfl <;> omega
 have E:(F/k%2 == 1)=Wh.bit F k:=by
  unfold Wh.bit
  by_cases h:F/k%2=1
  ·rw [decide_eq_true h];simpa using h
  ·rw [decide_eq_false h];simpa using h
 have k0:k≠0:=by omega
 have k1:k≠-1:=by omega
 have kb:1≤k:=by omega
 have kc:k≤16:=by omega
 clear hk
 go_enter Tryz.func198,Tryz.ntmps198
 go_wp2_with fail
 go_ret
 exact ⟨by rw [←E];rfl,rfl⟩
set_option maxRecDepth 100000 in
theorem xcheck_any (V F W P:Int) (w:World):
  Calls Tryz.prog 196 #[.agg #[.int .u8 V,.int .i64 F,.int .i64 W,.int .i64 P]] w fun e w'=>e=.returned (.int .i64 (Wh.chk F W P))∧Below w.heap.size w w':=by
 have B:=hid (SB.new w V F W P)
 obtain ⟨c0,c1,c2,c3⟩:=B.out.flat
 by_cases h:F<0∨31<F∨W<0∨P < -1
 ·rw [show Wh.chk F W P=1 from if_pos h]
  by_cases h1:F<0
  ·clear h
   go_enter Tryz.func196,Tryz.ntmps196
   go_wp2_with fail
   go_ret
   exact ⟨rfl,B.out.bel⟩
  ·by_cases h2:31<F
   ·clear h
    go_enter Tryz.func196,Tryz.ntmps196
    go_wp2_with fail
    go_ret
    exact ⟨rfl,B.out.bel⟩
   ·by_cases h3:W<0
    ·clear h
     go_enter Tryz.func196,Tryz.ntmps196
     go_wp2_with fail
     go_ret
     exact ⟨rfl,B.out.bel⟩
    ·have h4:P < -1:=by omega
     clear h
     go_enter Tryz.func196,Tryz.ntmps196
     go_wp2_with fail
     go_ret
     exact ⟨rfl,B.out.bel⟩
 ·have h1:¬F<0:=by omega
  have h2:¬31<F:=by omega
  have h3:¬W<0:=by omega
  have h4:¬P < -1:=by omega
  by_cases k:4096<W∨4096<P
  ·rw [show Wh.chk F W P=6 by rw [Wh.chk,if_neg h,if_pos k]]
   by_cases k1:4096<W
   ·clear h k
    go_enter Tryz.func196,Tryz.ntmps196
    go_wp2_with fail
    go_ret
    exact ⟨rfl,B.out.bel⟩
   ·have k2:4096<P:=by omega
    clear h k
    go_enter Tryz.func196,Tryz.ntmps196
    go_wp2_with fail
    go_ret
    exact ⟨rfl,B.out.bel⟩
  ·rw [show Wh.chk F W P=0 by rw [Wh.chk,if_neg h,if_neg k]]
   have k1:¬4096<W:=by omega
   have k2:¬4096<P:=by omega
   clear h k
   go_enter Tryz.func196,Tryz.ntmps196
   go_wp2_with fail
   go_ret
   exact ⟨rfl,B.out.bel⟩
set_option maxRecDepth 100000 in
theorem xpointed_any (a b:List Int) (h:Bool) (w:World) (ha:Wh.By a) (hb:Wh.By b) (la:a.length≤10000) (lb:b.length≤10000):
  Calls Tryz.prog 202 #[.string (strOfNums a),.string (strOfNums b),.bool h] w fun e w'=>e=.returned (.string (strOfNums (Po.hd a b h)))∧w'=w:=by
 have sa:(strOfNums a).size=a.length:=strOfNums_size a
 have sb:(strOfNums b).size=b.length:=strOfNums_size b
 have SA:=Str.of_nums ha
 have SB:=Str.of_nums hb
 have na:((strOfNums a).size:Int)≤10000:=by rw [sa];omega
 have nb:((strOfNums b).size:Int)≤10000:=by rw [sb];omega
 have EI:=isEmpty_nums b
 have EJ:=toList_nums b
 have E1:Hid (b=[]→h=false→strOfNums a=strOfNums (Po.hd a b h)):=fun h1 h2=>by rw [Po.hd,if_pos ⟨h1,h2⟩]
 have E2:Hid (¬(b=[]∧h=false)→strOfNums a++⟨#[46]⟩++strOfNums b=strOfNums (Po.hd a b h)):=fun hc=>by
  rw [Po.hd,if_neg hc]
  have q:Str (strOfNums a++⟨#[46]⟩++strOfNums b) (a++[46]++b):=(SA.app (show Str ⟨#[46]⟩ [46] from rfl)).app SB
  rw [str_is q]
  simp
 clear SA SB sa sb la lb ha hb
 cases b with
 | nil=>
  rw [show (([]:List Int).isEmpty)=true from rfl] at EI EJ
  cases h with
  | false=>
   have E:=hid (E1.out rfl rfl)
   clear E1 E2
   generalize Po.hd a [] false=R at *
   go_enter Tryz.func202,Tryz.ntmps202
   go_wp2_with fail
   go_ret
   exact ⟨ret_str E.out,rfl⟩
  | true=>
   have E:=hid (E2.out (fun q=>Bool.false_ne_true q.2.symm))
   clear E1 E2
   generalize Po.hd a [] true=R at *
   go_enter Tryz.func202,Tryz.ntmps202
   go_wp2_with fail
   go_ret
   exact ⟨ret_str E.out,rfl⟩
 | cons y l=>
  rw [show ((y::l).isEmpty)=false from rfl] at EI EJ
  have E:=hid (E2.out (fun q=>by cases q.1))
  clear E1 E2
  generalize Po.hd a (y::l) h=R at *
  generalize strOfNums (y::l)=B at *
  go_enter Tryz.func202,Tryz.ntmps202
  go_wp2_with fail
  go_ret
  exact ⟨ret_str E.out,rfl⟩
set_option maxRecDepth 100000 in
set_option maxHeartbeats 2000000 in
theorem xstripped_any (xs:List Int) (w:World) (hy:Wh.By xs) (hl:xs.length≤20000):
  Calls Tryz.prog 205 #[.string (strOfNums xs)] w fun e w'=>e=.returned (.string (strOfNums (Po.sp xs)))∧w'=w:=by
 obtain ⟨m,m1,m2,mz,mx⟩:=Po.sp_take xs
 have sz:(strOfNums xs).size=xs.length:=strOfNums_size xs
 have AT:Hid (∀t (k:t<(strOfNums xs).size),(((strOfNums xs)[t]'k).toNat:Int)=xs.getD t 0):=fun t k=>(Str.of_nums hy).at t k
 have lb:(xs.length:Int)≤20000:=by omega
 have X1:=ext_head hy m
 rw [←m2] at X1
 generalize strOfNums (Po.sp xs)=R at *
 replace mz:=hid mz
 replace mx:=hid mx
 clear m2 hy hl
 generalize hL:xs.length=L at *
 generalize hS:strOfNums xs=s at *
 go_enter Tryz.func205,Tryz.ntmps205
 go_wp2_with fail
 go_loopg [3] (L - m) (fun k v wr=>v=.int .i64 ((m+k:Nat):Int)∧m+k≤L∧wr=w)
 case atStart=>exact ⟨by rw [show m+(L - m)=L by omega],by omega,rfl⟩
 case round=>
  obtain ⟨rfl,mt,hw⟩:=hrel
  have hw:=hw.symm
  subst hw
  by_cases hg:gk=0
  ·subst hg
   simp only [Nat.add_zero] at *
   by_cases m0:m=0
   ·subst m0
    have X0:Hid (s.extract 0 0=R):=X1
    clear AT mz mx
    go_wp2_with fail
    go_ret
    exact ⟨ret_str (by rw [←X0.out];simp),rfl⟩
   ·obtain ⟨u,hu⟩:∃u,m=u+1:=⟨m - 1,by omega⟩
    have hmi:(0:Int)<(m:Int):=by omega
    have hmu:(m:Int) - 1=(u:Int):=by omega
    have hum:(u:Int)<(L:Int):=by omega
    have hmL:(m:Int)≤(L:Int):=by omega
    have nx:=mx.out (by omega)
    rw [show m - 1=u by omega] at nx
    obtain ⟨y,hy⟩:∃y,xs.getD u 0=y:=⟨_,rfl⟩
    have ax:∀k:u<s.size,((s[u]'k).toNat:Int)=y:=fun k=>by rw [AT.out u k,hy]
    rw [hy] at nx
    have nx2:(y == 48)=false:=by rw [beq_eq_false_iff_ne];exact nx
    replace hu:=hid hu
    clear AT mz mx nx hy m0
    go_wp2_with fail
    go_ret
    exact ⟨rfl,rfl⟩
  ·obtain ⟨u,hu⟩:∃u,m+gk=u+1:=⟨m+gk - 1,by omega⟩
   have hmi:(0:Int)<((m+gk:Nat):Int):=by omega
   have hmu:((m+gk:Nat):Int) - 1=(u:Int):=by omega
   have hum:(u:Int)<(L:Int):=by omega
   have ax:∀k:u<s.size,((s[u]'k).toNat:Int)=48:=fun k=>by rw [AT.out u k];exact mz.out u (by omega) (by omega)
   have hr:Hid ((u:Int)=((m+(gk - 1):Nat):Int)∧m+(gk - 1)≤L∧gk - 1<gk):=⟨by omega,by omega,by omega⟩
   clear AT mz mx
   replace hu:=hid hu
   generalize hM:m+gk=M at *
   replace hM:=hid hM
   go_wp2_with fail
   go_roundg (gk - 1)
   case measure=>exact hr.out.2.2
   case rel=>exact ⟨by rw [←hr.out.1],hr.out.2.1,rfl⟩
theorem xrow8_empty (w:World):Row8 w.heap.size (w.alloc (.cells #[] 5)) (.slice (some ⟨w.heap.size,0,none⟩) 0 0) []:=by
 refine ⟨rfl,.inr ⟨w.heap.size,0,#[],rfl,Nat.le_refl _,?_,Nat.le_refl _,by simp only [maxLen];omega,rfl,rfl⟩⟩
 show (w.heap.push _)[w.heap.size]?=_
 rw [Array.getElem?_push,if_pos rfl]
theorem Row8.xstr {base:Nat} {w:World} {mv:Value} {xs:List Int} (h:Row8 base w mv xs) (h0:xs≠[]):(convert 146 9 mv).run Tryz.prog w=.ok (.string (strOfNums xs)) w:=by
 obtain ⟨g,cp,rfl,c⟩:=h.cells h0
 exact run_convert_bytes_arg (P:=Tryz.prog) w 146 5 Tryz.underlying146 Tryz.underlying5 g 0 xs.length cp xs rfl c 9 Tryz.underlying9
theorem xstr0 (g:Nat) (w:World):(convert 146 9 (.slice (some ⟨g,0,none⟩) 0 0)).run Tryz.prog w=.ok (.string (strOfNums [])) w:=
 run_convert_bytes_arg (P:=Tryz.prog) w 146 5 Tryz.underlying146 Tryz.underlying5 g 0 0 0 [] rfl (fun i hi=>by simp at hi) 9 Tryz.underlying9
set_option maxRecDepth 100000 in
set_option maxHeartbeats 2000000 in
theorem xzeros_any (n:Int) (w:World) (hn:n≤100000) (hn0:-9223372036854775808≤n):
  Calls Tryz.prog 200 #[.int .i64 n] w fun e w'=>e=.returned (.string (strOfNums (Wh.rep 48 n)))∧Below w.heap.size w w':=by
 have A0:=hid (alloc_b w (.cells #[] 5))
 have R0:=hid (xrow8_empty w)
 have cv0:=xstr0 w.heap.size (w.alloc (.cells #[] 5))
 by_cases h0:n≤0
 ·rw [Wh.rep_neg h0]
  generalize strOfNums []=ss at *
  go_enter Tryz.func200,Tryz.ntmps200
  go_wp2_with fail
  go_loopg [3,4] 0 (fun k b i wr=>b=.slice (some ⟨w.heap.size,0,none⟩) 0 0∧i=.int .i64 0∧wr=w.alloc (.cells #[] 5))
  case atStart=>exact ⟨rfl,rfl,rfl⟩
  case round=>
   obtain ⟨rfl,rfl,rfl⟩:=hrel
   go_wp2_with fail
   go_ret
   exact ⟨rfl,A0.out⟩
 ·obtain ⟨m,hm⟩:=Int.eq_ofNat_of_zero_le (show 0≤n by omega)
  subst hm
  have hrp:Hid (Wh.rep 48 (m:Int)=List.replicate m 48):=rfl
  have m1:1≤m:=by omega
  clear cv0 h0
  generalize hW0:w.alloc (.cells #[] 5)=w0 at *
  replace hW0:=hid hW0
  go_enter Tryz.func200,Tryz.ntmps200
  go_wp2_with fail
  (try rw [hW0.out])
  go_loopg [3,4] m (fun k b i wr=>∃t:Nat,t+k=m∧i=.int .i64 (t:Int)∧Hid (Row8 w.heap.size wr b (List.replicate t 48)∧Below w.heap.size w wr))
  case atStart=>exact ⟨0,by omega,rfl,R0.out,A0.out⟩
  case round=>
   obtain ⟨t,ht,rfl,I⟩:=hrel
   clear R0 A0
   by_cases htm:t=m
   ·subst htm
    have cv:=I.out.1.xstr (fun q=>by have:=congrArg List.length q;simp at this;omega)
    rw [←hrp.out] at cv
    have B:=hid I.out.2
    clear I
    go_wp2_with fail
    go_ret
    exact ⟨rfl,B.out⟩
   ·have hti:(t:Int)<(m:Int):=by omega
    obtain ⟨mv',w2,ap,r2,z2,b2,_⟩:=I.out.1.push 48 (by simp;omega) I.out.2.size
    have F:Hid (Row8 w.heap.size w2 mv' (List.replicate (t+1) 48)∧Below w.heap.size w w2):=⟨by rw [List.replicate_succ'];exact r2,I.out.2.trans b2⟩
    have AP:=hid ap
    clear ap r2 z2 b2 I
    go_wp2_with (at_builtin;refine wpList_append_b rfl _ _ rfl AP.out (by rfl) (by rfl) ?_;clear AP)
    go_roundg (m - (t+1))
    case measure=>omega
    case rel=>exact ⟨t+1,by omega,by go_num,F.out⟩
set_option maxRecDepth 100000 in
set_option maxHeartbeats 2000000 in
theorem xblanks_any (n:Int) (w:World) (hn:n≤100000) (hn0:-9223372036854775808≤n):
  Calls Tryz.prog 199 #[.int .i64 n] w fun e w'=>e=.returned (.string (strOfNums (Wh.rep 32 n)))∧Below w.heap.size w w':=by
 have A0:=hid (alloc_b w (.cells #[] 5))
 have R0:=hid (xrow8_empty w)
 have cv0:=xstr0 w.heap.size (w.alloc (.cells #[] 5))
 by_cases h0:n≤0
 ·rw [Wh.rep_neg h0]
  generalize strOfNums []=ss at *
  go_enter Tryz.func199,Tryz.ntmps199
  go_wp2_with fail
  go_loopg [3,4] 0 (fun k b i wr=>b=.slice (some ⟨w.heap.size,0,none⟩) 0 0∧i=.int .i64 0∧wr=w.alloc (.cells #[] 5))
  case atStart=>exact ⟨rfl,rfl,rfl⟩
  case round=>
   obtain ⟨rfl,rfl,rfl⟩:=hrel
   go_wp2_with fail
   go_ret
   exact ⟨rfl,A0.out⟩
 ·obtain ⟨m,hm⟩:=Int.eq_ofNat_of_zero_le (show 0≤n by omega)
  subst hm
  have hrp:Hid (Wh.rep 32 (m:Int)=List.replicate m 32):=rfl
  have m1:1≤m:=by omega
  clear cv0 h0
  generalize hW0:w.alloc (.cells #[] 5)=w0 at *
  replace hW0:=hid hW0
  go_enter Tryz.func199,Tryz.ntmps199
  go_wp2_with fail
  (try rw [hW0.out])
  go_loopg [3,4] m (fun k b i wr=>∃t:Nat,t+k=m∧i=.int .i64 (t:Int)∧Hid (Row8 w.heap.size wr b (List.replicate t 32)∧Below w.heap.size w wr))
  case atStart=>exact ⟨0,by omega,rfl,R0.out,A0.out⟩
  case round=>
   obtain ⟨t,ht,rfl,I⟩:=hrel
   clear R0 A0
   by_cases htm:t=m
   ·subst htm
    have cv:=I.out.1.xstr (fun q=>by have:=congrArg List.length q;simp at this;omega)
    rw [←hrp.out] at cv
    have B:=hid I.out.2
    clear I
    go_wp2_with fail
    go_ret
    exact ⟨rfl,B.out⟩
   ·have hti:(t:Int)<(m:Int):=by omega
    obtain ⟨mv',w2,ap,r2,z2,b2,_⟩:=I.out.1.push 32 (by simp;omega) I.out.2.size
    have F:Hid (Row8 w.heap.size w2 mv' (List.replicate (t+1) 32)∧Below w.heap.size w w2):=⟨by rw [List.replicate_succ'];exact r2,I.out.2.trans b2⟩
    have AP:=hid ap
    clear ap r2 z2 b2 I
    go_wp2_with (at_builtin;refine wpList_append_b rfl _ _ rfl AP.out (by rfl) (by rfl) ?_;clear AP)
    go_roundg (m - (t+1))
    case measure=>omega
    case rel=>exact ⟨t+1,by omega,by go_num,F.out⟩
end Go.Proofs.YtbdhlfklcdegdaaGreatDoor

namespace Go.Proofs.YtbdhlfklcdegdaaGreatDoor
open Go Go.RowKit Go.Deep Go.Shelf
theorem xapp {a b:List Int} (ha:Wh.By a) (hb:Wh.By b):strOfNums a++strOfNums b=strOfNums (a++b):=str_is ((Str.of_nums ha).app (Str.of_nums hb))
set_option maxRecDepth 100000 in
set_option maxHeartbeats 8000000 in
theorem xlaid_any (V F W P:Int) (neg fin:Bool) (t:List Int) (w:World) (f0:0≤F) (f1:F≤31) (w0:0≤W) (w1:W≤4096) (ht:Wh.By t) (hl:t.length≤30000):
  Calls Tryz.prog 133 #[.agg #[.int .u8 V,.int .i64 F,.int .i64 W,.int .i64 P],.bool neg,.string (strOfNums t),.bool fin] w fun e w'=>e=.returned (.string (strOfNums (Wh.padT F W fin (Wh.sgn F neg) t)))∧Below w.heap.size w w':=by
 have B0:=hid (SB.new w V F W P)
 have H1:=hid (fun W'=>xhas_any F 1 W' f0 f1 (by omega))
 have H2:=hid (fun W'=>xhas_any F 2 W' f0 f1 (by omega))
 have H4:=hid (fun W'=>xhas_any F 4 W' f0 f1 (by omega))
 have H16:=hid (fun W'=>xhas_any F 16 W' f0 f1 (by omega))
 have hy:=Wh.sgn_by F neg
 have sl:=Wh.sgn_len F neg
 have SG1:Hid (neg=true→strOfNums (Wh.sgn F neg)=⟨#[45]⟩):=fun a=>by rw [Wh.sgn,if_pos a];rfl
 have SG2:Hid (neg=false→Wh.bit F 2=true→strOfNums (Wh.sgn F neg)=⟨#[43]⟩):=fun a b=>by rw [Wh.sgn,if_neg (by rw [a];exact Bool.false_ne_true),if_pos b];rfl
 have SG3:Hid (neg=false→Wh.bit F 2=false→Wh.bit F 4=true→strOfNums (Wh.sgn F neg)=⟨#[32]⟩):=fun a b c=>by rw [Wh.sgn,if_neg (by rw [a];exact Bool.false_ne_true),if_neg (by rw [b];exact Bool.false_ne_true),if_pos c];rfl
 have SG4:Hid (neg=false→Wh.bit F 2=false→Wh.bit F 4=false→strOfNums (Wh.sgn F neg)=⟨#[]⟩):=fun a b c=>by rw [Wh.sgn,if_neg (by rw [a];exact Bool.false_ne_true),if_neg (by rw [b];exact Bool.false_ne_true),if_neg (by rw [c];exact Bool.false_ne_true)];rfl
 have gz:(strOfNums (Wh.sgn F neg)).size=(Wh.sgn F neg).length:=strOfNums_size _
 have tz:(strOfNums t).size=t.length:=strOfNums_size t
 have PT:Hid (Wh.padT F W fin (Wh.sgn F neg) t=if Wh.bit F 1=true then Wh.sgn F neg++t++Wh.rep 32 (W - (Wh.sgn F neg).length - t.length) else if Wh.bit F 16=true∧fin=true then Wh.sgn F neg++Wh.rep 48 (W - (Wh.sgn F neg).length - t.length)++t else Wh.rep 32 (W - (Wh.sgn F neg).length - t.length)++Wh.sgn F neg++t):=rfl
 have BL:=hid (fun W'=>xblanks_any (W - (Wh.sgn F neg).length - t.length) W' (by omega) (by omega))
 have ZR:=hid (fun W'=>xzeros_any (W - (Wh.sgn F neg).length - t.length) W' (by omega) (by omega))
 have y1:Wh.By (Wh.rep 32 (W - (Wh.sgn F neg).length - t.length)):=Wh.By.rep (by omega)
 have y2:Wh.By (Wh.rep 48 (W - (Wh.sgn F neg).length - t.length)):=Wh.By.rep (by omega)
 have s1:((strOfNums (Wh.rep 32 (W - (Wh.sgn F neg).length - t.length))).size:Int)≤4096:=by rw [strOfNums_size,Wh.rep_len];omega
 have s2:((strOfNums (Wh.rep 48 (W - (Wh.sgn F neg).length - t.length))).size:Int)≤4096:=by rw [strOfNums_size,Wh.rep_len];omega
 have gl:((Wh.sgn F neg).length:Int)≤1:=by omega
 have tl:(t.length:Int)≤30000:=by omega
 have RN:Hid (W - (Wh.sgn F neg).length - t.length≤0→strOfNums (Wh.sgn F neg)++strOfNums t=strOfNums (Wh.padT F W fin (Wh.sgn F neg) t)):=fun h=>by
  rw [xapp hy ht,PT.out,Wh.rep_neg h,Wh.rep_neg h]
  split
  ·rw [List.append_nil]
  ·split
   ·rw [List.append_nil]
   ·rw [List.nil_append]
 have R1:Hid (Wh.bit F 1=true→strOfNums (Wh.sgn F neg)++strOfNums t++strOfNums (Wh.rep 32 (W - (Wh.sgn F neg).length - t.length))=strOfNums (Wh.padT F W fin (Wh.sgn F neg) t)):=fun h=>by
  rw [xapp hy ht,xapp (hy.app ht) y1,PT.out,if_pos h]
 have R2:Hid (Wh.bit F 1=false→Wh.bit F 16=true∧fin=true→strOfNums (Wh.sgn F neg)++strOfNums (Wh.rep 48 (W - (Wh.sgn F neg).length - t.length))++strOfNums t=strOfNums (Wh.padT F W fin (Wh.sgn F neg) t)):=fun h k=>by
  rw [xapp hy y2,xapp (hy.app y2) ht,PT.out,if_neg (by rw [h];exact Bool.false_ne_true),if_pos k]
 have R3:Hid (Wh.bit F 1=false→¬(Wh.bit F 16=true∧fin=true)→strOfNums (Wh.rep 32 (W - (Wh.sgn F neg).length - t.length))++strOfNums (Wh.sgn F neg)++strOfNums t=strOfNums (Wh.padT F W fin (Wh.sgn F neg) t)):=fun h k=>by
  rw [xapp y1 hy,xapp (y1.app hy) ht,PT.out,if_neg (by rw [h];exact Bool.false_ne_true),if_neg k]
 clear hy ht y1 y2 PT sl hl f0 f1
 generalize strOfNums (Wh.padT F W fin (Wh.sgn F neg) t)=RR at *
 generalize strOfNums (Wh.rep 32 (W - (Wh.sgn F neg).length - t.length))=rb at *
 generalize strOfNums (Wh.rep 48 (W - (Wh.sgn F neg).length - t.length))=rz at *
 generalize strOfNums (Wh.sgn F neg)=sg at *
 generalize (Wh.sgn F neg).length=G at *
 generalize strOfNums t=ts at *
 generalize t.length=T at *
 generalize Wh.bit F 1=b1 at *
 generalize Wh.bit F 2=b2 at *
 generalize Wh.bit F 4=b4 at *
 generalize Wh.bit F 16=b16 at *
 cases neg with
 | true=>
  by_cases hN:W - (G:Int) - (T:Int)≤0
  ·have R:=hid (RN.out hN)
   clear RN R1 R2 R3
   obtain ⟨c0,c1,c2,c3⟩:=B0.out.flat
   go_enter Tryz.func133,Tryz.ntmps133
   go_upto_block 0 with fail
   go_cut [9,11,13,17] (fun s _ _ _ wx=>s=.string sg∧Hid (SB w w.heap.size V F W P wx))
   case first=>
    go_wp2_with (go_at_call 198;(first | (with_reducible refine (H2.out _).mono ?_) | (with_reducible refine (H4.out _).mono ?_));rintro e w2 ⟨rfl,e2⟩;rw [e2];clear e2 w2)
    all_goals go_meet
    all_goals exact ⟨by first | rw [SG1.out (by trivial)] | rw [SG2.out (by trivial) (by assumption)] | rw [SG3.out (by trivial) (by assumption) (by assumption)] | rw [SG4.out (by trivial) (by assumption) (by assumption)],B0⟩
   case rest=>
   obtain ⟨h9,B1⟩:=hcut
   subst h9
   clear SG1 SG2 SG3 SG4 B0 c0 c1 c2 c3 H2 H4
   obtain ⟨c0,c1,c2,c3⟩:=B1.out.flat
   go_wp2_with fail
   go_ret
   exact ⟨ret_str R.out,B1.out.bel⟩
  ·clear RN
   cases b1 with
   | true=>
    have R:=hid (R1.out rfl)
    clear R1 R2 R3
    obtain ⟨c0,c1,c2,c3⟩:=B0.out.flat
    go_enter Tryz.func133,Tryz.ntmps133
    go_upto_block 0 with fail
    go_cut [9,11,13,17] (fun s _ _ _ wx=>s=.string sg∧Hid (SB w w.heap.size V F W P wx))
    case first=>
     go_wp2_with (go_at_call 198;(first | (with_reducible refine (H2.out _).mono ?_) | (with_reducible refine (H4.out _).mono ?_));rintro e w2 ⟨rfl,e2⟩;rw [e2];clear e2 w2)
     all_goals go_meet
     all_goals exact ⟨by first | rw [SG1.out (by trivial)] | rw [SG2.out (by trivial) (by assumption)] | rw [SG3.out (by trivial) (by assumption) (by assumption)] | rw [SG4.out (by trivial) (by assumption) (by assumption)],B0⟩
    case rest=>
    obtain ⟨h9,B1⟩:=hcut
    subst h9
    clear SG1 SG2 SG3 SG4 B0 c0 c1 c2 c3 H2 H4
    obtain ⟨c0,c1,c2,c3⟩:=B1.out.flat
    go_wp2_with fail
    with_reducible refine (H1.out _).mono ?_
    rintro e w2 ⟨rfl,e2⟩
    rw [e2]
    clear e2 w2
    go_wp2_with fail
    with_reducible refine (BL.out _).mono ?_
    rintro e w3 ⟨rfl,b3⟩
    have B3:=hid (B1.out.on b3)
    clear b3 B1 c0 c1 c2 c3
    go_wp2_with fail
    go_ret
    exact ⟨ret_str R.out,B3.out.bel⟩
   | false=>
    cases b16 with
    | true=>
     cases fin with
     | true=>
      have R:=hid (R2.out rfl ⟨rfl,rfl⟩)
      clear R1 R2 R3
      obtain ⟨c0,c1,c2,c3⟩:=B0.out.flat
      go_enter Tryz.func133,Tryz.ntmps133
      go_upto_block 0 with fail
      go_cut [9,11,13,17] (fun s _ _ _ wx=>s=.string sg∧Hid (SB w w.heap.size V F W P wx))
      case first=>
       go_wp2_with (go_at_call 198;(first | (with_reducible refine (H2.out _).mono ?_) | (with_reducible refine (H4.out _).mono ?_));rintro e w2 ⟨rfl,e2⟩;rw [e2];clear e2 w2)
       all_goals go_meet
       all_goals exact ⟨by first | rw [SG1.out (by trivial)] | rw [SG2.out (by trivial) (by assumption)] | rw [SG3.out (by trivial) (by assumption) (by assumption)] | rw [SG4.out (by trivial) (by assumption) (by assumption)],B0⟩
      case rest=>
      obtain ⟨h9,B1⟩:=hcut
      subst h9
      clear SG1 SG2 SG3 SG4 B0 c0 c1 c2 c3 H2 H4
      obtain ⟨c0,c1,c2,c3⟩:=B1.out.flat
      go_wp2_with fail
      with_reducible refine (H1.out _).mono ?_
      rintro e w2 ⟨rfl,e2⟩
      rw [e2]
      clear e2 w2
      go_wp2_with fail
      with_reducible refine (H16.out _).mono ?_
      rintro e w2 ⟨rfl,e2⟩
      rw [e2]
      clear e2 w2
      go_wp2_with fail
      with_reducible refine (ZR.out _).mono ?_
      rintro e w3 ⟨rfl,b3⟩
      have B3:=hid (B1.out.on b3)
      clear b3 B1 c0 c1 c2 c3
      go_wp2_with fail
      go_ret
      exact ⟨ret_str R.out,B3.out.bel⟩
     | false=>
      have R:=hid (R3.out rfl (fun q=>Bool.false_ne_true q.2))
      clear R1 R2 R3
      obtain ⟨c0,c1,c2,c3⟩:=B0.out.flat
      go_enter Tryz.func133,Tryz.ntmps133
      go_upto_block 0 with fail
      go_cut [9,11,13,17] (fun s _ _ _ wx=>s=.string sg∧Hid (SB w w.heap.size V F W P wx))
      case first=>
       go_wp2_with (go_at_call 198;(first | (with_reducible refine (H2.out _).mono ?_) | (with_reducible refine (H4.out _).mono ?_));rintro e w2 ⟨rfl,e2⟩;rw [e2];clear e2 w2)
       all_goals go_meet
       all_goals exact ⟨by first | rw [SG1.out (by trivial)] | rw [SG2.out (by trivial) (by assumption)] | rw [SG3.out (by trivial) (by assumption) (by assumption)] | rw [SG4.out (by trivial) (by assumption) (by assumption)],B0⟩
      case rest=>
      obtain ⟨h9,B1⟩:=hcut
      subst h9
      clear SG1 SG2 SG3 SG4 B0 c0 c1 c2 c3 H2 H4
      obtain ⟨c0,c1,c2,c3⟩:=B1.out.flat
      go_wp2_with fail
      with_reducible refine (H1.out _).mono ?_
      rintro e w2 ⟨rfl,e2⟩
      rw [e2]
      clear e2 w2
      go_wp2_with fail
      with_reducible refine (H16.out _).mono ?_
      rintro e w2 ⟨rfl,e2⟩
      rw [e2]
      clear e2 w2
      go_wp2_with fail
      with_reducible refine (BL.out _).mono ?_
      rintro e w3 ⟨rfl,b3⟩
      have B3:=hid (B1.out.on b3)
      clear b3 B1 c0 c1 c2 c3
      go_wp2_with fail
      go_ret
      exact ⟨ret_str R.out,B3.out.bel⟩
    | false=>
     have R:=hid (R3.out rfl (fun q=>Bool.false_ne_true q.1))
     clear R1 R2 R3
     obtain ⟨c0,c1,c2,c3⟩:=B0.out.flat
     go_enter Tryz.func133,Tryz.ntmps133
     go_upto_block 0 with fail
     go_cut [9,11,13,17] (fun s _ _ _ wx=>s=.string sg∧Hid (SB w w.heap.size V F W P wx))
     case first=>
      go_wp2_with (go_at_call 198;(first | (with_reducible refine (H2.out _).mono ?_) | (with_reducible refine (H4.out _).mono ?_));rintro e w2 ⟨rfl,e2⟩;rw [e2];clear e2 w2)
      all_goals go_meet
      all_goals exact ⟨by first | rw [SG1.out (by trivial)] | rw [SG2.out (by trivial) (by assumption)] | rw [SG3.out (by trivial) (by assumption) (by assumption)] | rw [SG4.out (by trivial) (by assumption) (by assumption)],B0⟩
     case rest=>
     obtain ⟨h9,B1⟩:=hcut
     subst h9
     clear SG1 SG2 SG3 SG4 B0 c0 c1 c2 c3 H2 H4
     obtain ⟨c0,c1,c2,c3⟩:=B1.out.flat
     go_wp2_with fail
     with_reducible refine (H1.out _).mono ?_
     rintro e w2 ⟨rfl,e2⟩
     rw [e2]
     clear e2 w2
     go_wp2_with fail
     with_reducible refine (H16.out _).mono ?_
     rintro e w2 ⟨rfl,e2⟩
     rw [e2]
     clear e2 w2
     go_wp2_with fail
     with_reducible refine (BL.out _).mono ?_
     rintro e w3 ⟨rfl,b3⟩
     have B3:=hid (B1.out.on b3)
     clear b3 B1 c0 c1 c2 c3
     go_wp2_with fail
     go_ret
     exact ⟨ret_str R.out,B3.out.bel⟩
 | false=>
  by_cases hN:W - (G:Int) - (T:Int)≤0
  ·have R:=hid (RN.out hN)
   clear RN R1 R2 R3
   obtain ⟨c0,c1,c2,c3⟩:=B0.out.flat
   go_enter Tryz.func133,Tryz.ntmps133
   go_upto_block 0 with fail
   go_cut [9,11,13,17] (fun s _ _ _ wx=>s=.string sg∧Hid (SB w w.heap.size V F W P wx))
   case first=>
    go_wp2_with (go_at_call 198;(first | (with_reducible refine (H2.out _).mono ?_) | (with_reducible refine (H4.out _).mono ?_));rintro e w2 ⟨rfl,e2⟩;rw [e2];clear e2 w2)
    all_goals go_meet
    all_goals exact ⟨by first | rw [SG1.out (by trivial)] | rw [SG2.out (by trivial) (by assumption)] | rw [SG3.out (by trivial) (by assumption) (by assumption)] | rw [SG4.out (by trivial) (by assumption) (by assumption)],B0⟩
   case rest=>
   obtain ⟨h9,B1⟩:=hcut
   subst h9
   clear SG1 SG2 SG3 SG4 B0 c0 c1 c2 c3 H2 H4
   obtain ⟨c0,c1,c2,c3⟩:=B1.out.flat
   go_wp2_with fail
   go_ret
   exact ⟨ret_str R.out,B1.out.bel⟩
  ·clear RN
   cases b1 with
   | true=>
    have R:=hid (R1.out rfl)
    clear R1 R2 R3
    obtain ⟨c0,c1,c2,c3⟩:=B0.out.flat
    go_enter Tryz.func133,Tryz.ntmps133
    go_upto_block 0 with fail
    go_cut [9,11,13,17] (fun s _ _ _ wx=>s=.string sg∧Hid (SB w w.heap.size V F W P wx))
    case first=>
     go_wp2_with (go_at_call 198;(first | (with_reducible refine (H2.out _).mono ?_) | (with_reducible refine (H4.out _).mono ?_));rintro e w2 ⟨rfl,e2⟩;rw [e2];clear e2 w2)
     all_goals go_meet
     all_goals exact ⟨by first | rw [SG1.out (by trivial)] | rw [SG2.out (by trivial) (by assumption)] | rw [SG3.out (by trivial) (by assumption) (by assumption)] | rw [SG4.out (by trivial) (by assumption) (by assumption)],B0⟩
    case rest=>
    obtain ⟨h9,B1⟩:=hcut
    subst h9
    clear SG1 SG2 SG3 SG4 B0 c0 c1 c2 c3 H2 H4
    obtain ⟨c0,c1,c2,c3⟩:=B1.out.flat
    go_wp2_with fail
    with_reducible refine (H1.out _).mono ?_
    rintro e w2 ⟨rfl,e2⟩
    rw [e2]
    clear e2 w2
    go_wp2_with fail
    with_reducible refine (BL.out _).mono ?_
    rintro e w3 ⟨rfl,b3⟩
    have B3:=hid (B1.out.on b3)
    clear b3 B1 c0 c1 c2 c3
    go_wp2_with fail
    go_ret
    exact ⟨ret_str R.out,B3.out.bel⟩
   | false=>
    cases b16 with
    | true=>
     cases fin with
     | true=>
      have R:=hid (R2.out rfl ⟨rfl,rfl⟩)
      clear R1 R2 R3
      obtain ⟨c0,c1,c2,c3⟩:=B0.out.flat
      go_enter Tryz.func133,Tryz.ntmps133
      go_upto_block 0 with fail
      go_cut [9,11,13,17] (fun s _ _ _ wx=>s=.string sg∧Hid (SB w w.heap.size V F W P wx))
      case first=>
       go_wp2_with (go_at_call 198;(first | (with_reducible refine (H2.out _).mono ?_) | (with_reducible refine (H4.out _).mono ?_));rintro e w2 ⟨rfl,e2⟩;rw [e2];clear e2 w2)
       all_goals go_meet
       all_goals exact ⟨by first | rw [SG1.out (by trivial)] | rw [SG2.out (by trivial) (by assumption)] | rw [SG3.out (by trivial) (by assumption) (by assumption)] | rw [SG4.out (by trivial) (by assumption) (by assumption)],B0⟩
      case rest=>
      obtain ⟨h9,B1⟩:=hcut
      subst h9
      clear SG1 SG2 SG3 SG4 B0 c0 c1 c2 c3 H2 H4
      obtain ⟨c0,c1,c2,c3⟩:=B1.out.flat
      go_wp2_with fail
      with_reducible refine (H1.out _).mono ?_
      rintro e w2 ⟨rfl,e2⟩
      rw [e2]
      clear e2 w2
      go_wp2_with fail
      with_reducible refine (H16.out _).mono ?_
      rintro e w2 ⟨rfl,e2⟩
      rw [e2]
      clear e2 w2
      go_wp2_with fail
      with_reducible refine (ZR.out _).mono ?_
      rintro e w3 ⟨rfl,b3⟩
      have B3:=hid (B1.out.on b3)
      clear b3 B1 c0 c1 c2 c3
      go_wp2_with fail
      go_ret
      exact ⟨ret_str R.out,B3.out.bel⟩
     | false=>
      have R:=hid (R3.out rfl (fun q=>Bool.false_ne_true q.2))
      clear R1 R2 R3
      obtain ⟨c0,c1,c2,c3⟩:=B0.out.flat
      go_enter Tryz.func133,Tryz.ntmps133
      go_upto_block 0 with fail
      go_cut [9,11,13,17] (fun s _ _ _ wx=>s=.string sg∧Hid (SB w w.heap.size V F W P wx))
      case first=>
       go_wp2_with (go_at_call 198;(first | (with_reducible refine (H2.out _).mono ?_) | (with_reducible refine (H4.out _).mono ?_));rintro e w2 ⟨rfl,e2⟩;rw [e2];clear e2 w2)
       all_goals go_meet
       all_goals exact ⟨by first | rw [SG1.out (by trivial)] | rw [SG2.out (by trivial) (by assumption)] | rw [SG3.out (by trivial) (by assumption) (by assumption)] | rw [SG4.out (by trivial) (by assumption) (by assumption)],B0⟩
      case rest=>
      obtain ⟨h9,B1⟩:=hcut
      subst h9
      clear SG1 SG2 SG3 SG4 B0 c0 c1 c2 c3 H2 H4
      obtain ⟨c0,c1,c2,c3⟩:=B1.out.flat
      go_wp2_with fail
      with_reducible refine (H1.out _).mono ?_
      rintro e w2 ⟨rfl,e2⟩
      rw [e2]
      clear e2 w2
      go_wp2_with fail
      with_reducible refine (H16.out _).mono ?_
      rintro e w2 ⟨rfl,e2⟩
      rw [e2]
      clear e2 w2
      go_wp2_with fail
      with_reducible refine (BL.out _).mono ?_
      rintro e w3 ⟨rfl,b3⟩
      have B3:=hid (B1.out.on b3)
      clear b3 B1 c0 c1 c2 c3
      go_wp2_with fail
      go_ret
      exact ⟨ret_str R.out,B3.out.bel⟩
    | false=>
     have R:=hid (R3.out rfl (fun q=>Bool.false_ne_true q.1))
     clear R1 R2 R3
     obtain ⟨c0,c1,c2,c3⟩:=B0.out.flat
     go_enter Tryz.func133,Tryz.ntmps133
     go_upto_block 0 with fail
     go_cut [9,11,13,17] (fun s _ _ _ wx=>s=.string sg∧Hid (SB w w.heap.size V F W P wx))
     case first=>
      go_wp2_with (go_at_call 198;(first | (with_reducible refine (H2.out _).mono ?_) | (with_reducible refine (H4.out _).mono ?_));rintro e w2 ⟨rfl,e2⟩;rw [e2];clear e2 w2)
      all_goals go_meet
      all_goals exact ⟨by first | rw [SG1.out (by trivial)] | rw [SG2.out (by trivial) (by assumption)] | rw [SG3.out (by trivial) (by assumption) (by assumption)] | rw [SG4.out (by trivial) (by assumption) (by assumption)],B0⟩
     case rest=>
     obtain ⟨h9,B1⟩:=hcut
     subst h9
     clear SG1 SG2 SG3 SG4 B0 c0 c1 c2 c3 H2 H4
     obtain ⟨c0,c1,c2,c3⟩:=B1.out.flat
     go_wp2_with fail
     with_reducible refine (H1.out _).mono ?_
     rintro e w2 ⟨rfl,e2⟩
     rw [e2]
     clear e2 w2
     go_wp2_with fail
     with_reducible refine (H16.out _).mono ?_
     rintro e w2 ⟨rfl,e2⟩
     rw [e2]
     clear e2 w2
     go_wp2_with fail
     with_reducible refine (BL.out _).mono ?_
     rintro e w3 ⟨rfl,b3⟩
     have B3:=hid (B1.out.on b3)
     clear b3 B1 c0 c1 c2 c3
     go_wp2_with fail
     go_ret
     exact ⟨ret_str R.out,B3.out.bel⟩
end Go.Proofs.YtbdhlfklcdegdaaGreatDoor

namespace Go.Proofs.YtbdhlfklcdegdaaGreatDoor
open Go Go.RowKit Go.Deep Go.Shelf
set_option maxRecDepth 100000 in
set_option maxHeartbeats 2000000 in
theorem xclass_any (d:Int) (w:World) (h0:0≤d) (h1:d<18446744073709551616):
  Calls Tryz.prog 197 #[.int .u64 d] w fun e w'=>e=.returned (.int .i64 (Ie.cls d))∧Below w.heap.size w w':=by
 have D:=hid (zdecode_any d w h0 h1)
 generalize decide (9223372036854775808≤d)=neg at D
 generalize Ie.cls d=c at *
 generalize Ie.dm d=m at D
 generalize Ie.de d=x at D
 simp only [partsOf] at D
 go_enter Tryz.func197,Tryz.ntmps197
 go_wp2_with fail
 refine D.out.mono ?_
 rintro e w1 ⟨rfl,hB⟩
 have HB:=hid hB
 clear hB D
 go_wp2_with fail
 go_ret
 exact ⟨rfl,Below.alloc HB.out HB.out.size _⟩
set_option maxRecDepth 100000 in
set_option maxHeartbeats 8000000 in
theorem xspecial_any (V F W P d:Int) (w:World) (v0:0≤V) (v1:V<256) (h0:0≤d) (h1:d<18446744073709551616):
  Calls Tryz.prog 132 #[.agg #[.int .u8 V,.int .i64 F,.int .i64 W,.int .i64 P],.int .u64 d] w fun e w'=>SpcTold V F W P d w e w':=by
 have B0:=hid (SB.new w V F W P)
 have CK:=hid (fun W'=>xcheck_any V F W P W')
 have CL:=hid (fun W'=>xclass_any d W' h0 h1)
 have ngd:Hid (Po.ng d=decide (9223372036854775808≤d)):=rfl
 by_cases hc:Wh.chk F W P=0
 ·obtain ⟨⟨f0,f1⟩,⟨wl,wu⟩,⟨p0,p1⟩⟩:=Wh.chk_ok hc
  rw [hc] at CK
  have LD:=hid (fun W'=>xlaid_any V F W P (decide (9223372036854775808≤d)) false (Po.nm (Po.cap V) (Ie.cls d)) W' f0 f1 wl wu (Po.nm_by _ _) (by have:=Po.nm_len (Po.cap V) (Ie.cls d);omega))
  by_cases hf:Ie.fnt d=true
  ·have hk:=of_decide_eq_true hf
   have G:Hid (∀w',Below w.heap.size w w'→SpcTold V F W P d w (.returned (.tuple #[.string ⟨#[]⟩,.bool false,.int .i64 0])) w'):=fun w' k=>⟨by rw [Po.spc,if_neg (fun q=>by rw [hf] at q;cases q.2),Po.spb,hf,hc];rfl,k⟩
   have k4:(Ie.cls d == 4)=false:=by rw [beq_eq_false_iff_ne];omega
   have k3:(Ie.cls d == 3)=false:=by rw [beq_eq_false_iff_ne];omega
   clear hc f0 f1 p0 p1 hf hk LD
   generalize Ie.cls d=cc at *
   rcases (show V=69∨V=70∨V=71∨V=88∨(V≠69∧V≠70∧V≠71∧V≠88) by omega) with rfl | rfl | rfl | rfl | ⟨q1,q2,q3,q4⟩
   ·go_enter Tryz.func132,Tryz.ntmps132
    go_wp2_with fail
    with_reducible refine (CK.out _).mono ?_
    rintro e w1 ⟨rfl,b1⟩
    have B1:=hid (B0.out.on b1)
    clear b1 B0 CK
    obtain ⟨c0,c1,c2,c3⟩:=B1.out.flat
    go_wp2_with fail
    with_reducible refine (CL.out _).mono ?_
    rintro e w2 ⟨rfl,b2⟩
    have B2:=hid (B1.out.on b2)
    clear b2 B1 CL c0 c1 c2 c3
    obtain ⟨c0,c1,c2,c3⟩:=B2.out.flat
    go_wp2_with fail
    go_ret3
    exact G.out _ B2.out.bel
   ·go_enter Tryz.func132,Tryz.ntmps132
    go_wp2_with fail
    with_reducible refine (CK.out _).mono ?_
    rintro e w1 ⟨rfl,b1⟩
    have B1:=hid (B0.out.on b1)
    clear b1 B0 CK
    obtain ⟨c0,c1,c2,c3⟩:=B1.out.flat
    go_wp2_with fail
    with_reducible refine (CL.out _).mono ?_
    rintro e w2 ⟨rfl,b2⟩
    have B2:=hid (B1.out.on b2)
    clear b2 B1 CL c0 c1 c2 c3
    obtain ⟨c0,c1,c2,c3⟩:=B2.out.flat
    go_wp2_with fail
    go_ret3
    exact G.out _ B2.out.bel
   ·go_enter Tryz.func132,Tryz.ntmps132
    go_wp2_with fail
    with_reducible refine (CK.out _).mono ?_
    rintro e w1 ⟨rfl,b1⟩
    have B1:=hid (B0.out.on b1)
    clear b1 B0 CK
    obtain ⟨c0,c1,c2,c3⟩:=B1.out.flat
    go_wp2_with fail
    with_reducible refine (CL.out _).mono ?_
    rintro e w2 ⟨rfl,b2⟩
    have B2:=hid (B1.out.on b2)
    clear b2 B1 CL c0 c1 c2 c3
    obtain ⟨c0,c1,c2,c3⟩:=B2.out.flat
    go_wp2_with fail
    go_ret3
    exact G.out _ B2.out.bel
   ·go_enter Tryz.func132,Tryz.ntmps132
    go_wp2_with fail
    with_reducible refine (CK.out _).mono ?_
    rintro e w1 ⟨rfl,b1⟩
    have B1:=hid (B0.out.on b1)
    clear b1 B0 CK
    obtain ⟨c0,c1,c2,c3⟩:=B1.out.flat
    go_wp2_with fail
    with_reducible refine (CL.out _).mono ?_
    rintro e w2 ⟨rfl,b2⟩
    have B2:=hid (B1.out.on b2)
    clear b2 B1 CL c0 c1 c2 c3
    obtain ⟨c0,c1,c2,c3⟩:=B2.out.flat
    go_wp2_with fail
    go_ret3
    exact G.out _ B2.out.bel
   ·have r1:(V == 69)=false:=by simpa using q1
    have r2:(V == 70)=false:=by simpa using q2
    have r3:(V == 71)=false:=by simpa using q3
    have r4:(V == 88)=false:=by simpa using q4
    go_enter Tryz.func132,Tryz.ntmps132
    go_wp2_with fail
    with_reducible refine (CK.out _).mono ?_
    rintro e w1 ⟨rfl,b1⟩
    have B1:=hid (B0.out.on b1)
    clear b1 B0 CK
    obtain ⟨c0,c1,c2,c3⟩:=B1.out.flat
    go_wp2_with fail
    with_reducible refine (CL.out _).mono ?_
    rintro e w2 ⟨rfl,b2⟩
    have B2:=hid (B1.out.on b2)
    clear b2 B1 CL c0 c1 c2 c3
    obtain ⟨c0,c1,c2,c3⟩:=B2.out.flat
    go_wp2_with fail
    go_ret3
    exact G.out _ B2.out.bel
  ·have hf':Ie.fnt d=false:=by simpa using hf
   have G:Hid (∀w',Below w.heap.size w w'→SpcTold V F W P d w (.returned (.tuple #[.string (strOfNums (Wh.padT F W false (Wh.sgn F (decide (9223372036854775808≤d))) (Po.nm (Po.cap V) (Ie.cls d)))),.bool true,.int .i64 0])) w'):=fun w' k=>⟨by rw [Po.spc,if_pos ⟨hc,hf'⟩,Po.spb,hf',hc,ngd.out];rfl,k⟩
   have hcl:=Po.cls_of hf'
   have CP:Po.cap V=decide (V=69∨V=70∨V=71∨V=88):=rfl
   clear hc f0 f1 p0 p1 hf hf'
   generalize strOfNums (Wh.padT F W false (Wh.sgn F (decide (9223372036854775808≤d))) (Po.nm (Po.cap V) (Ie.cls d)))=RR at *
   rcases (show V=69∨V=70∨V=71∨V=88∨(V≠69∧V≠70∧V≠71∧V≠88) by omega) with rfl | rfl | rfl | rfl | ⟨q1,q2,q3,q4⟩
   ·have cf:Po.cap 69=true:=by decide
    rw [cf] at LD
    clear CP cf
    rcases hcl with q | q
    ·rw [q,show strOfNums (Po.nm true 3)=⟨#[73,78,70]⟩ from rfl] at LD
     rw [q] at CL
     clear q
     go_enter Tryz.func132,Tryz.ntmps132
     go_wp2_with fail
     with_reducible refine (CK.out _).mono ?_
     rintro e w1 ⟨rfl,b1⟩
     have B1:=hid (B0.out.on b1)
     clear b1 B0 CK
     obtain ⟨c0,c1,c2,c3⟩:=B1.out.flat
     go_wp2_with fail
     with_reducible refine (CL.out _).mono ?_
     rintro e w2 ⟨rfl,b2⟩
     have B2:=hid (B1.out.on b2)
     clear b2 B1 CL c0 c1 c2 c3
     obtain ⟨c0,c1,c2,c3⟩:=B2.out.flat
     go_wp2_with fail
     with_reducible refine (LD.out _).mono ?_
     rintro e w3 ⟨rfl,b3⟩
     have B3:=hid (B2.out.on b3)
     clear b3 B2 LD c0 c1 c2 c3
     go_wp2_with fail
     go_ret3
     exact G.out _ B3.out.bel
    ·rw [q,show strOfNums (Po.nm true 4)=⟨#[78,65,78]⟩ from rfl] at LD
     rw [q] at CL
     clear q
     go_enter Tryz.func132,Tryz.ntmps132
     go_wp2_with fail
     with_reducible refine (CK.out _).mono ?_
     rintro e w1 ⟨rfl,b1⟩
     have B1:=hid (B0.out.on b1)
     clear b1 B0 CK
     obtain ⟨c0,c1,c2,c3⟩:=B1.out.flat
     go_wp2_with fail
     with_reducible refine (CL.out _).mono ?_
     rintro e w2 ⟨rfl,b2⟩
     have B2:=hid (B1.out.on b2)
     clear b2 B1 CL c0 c1 c2 c3
     obtain ⟨c0,c1,c2,c3⟩:=B2.out.flat
     go_wp2_with fail
     with_reducible refine (LD.out _).mono ?_
     rintro e w3 ⟨rfl,b3⟩
     have B3:=hid (B2.out.on b3)
     clear b3 B2 LD c0 c1 c2 c3
     go_wp2_with fail
     go_ret3
     exact G.out _ B3.out.bel
   ·have cf:Po.cap 70=true:=by decide
    rw [cf] at LD
    clear CP cf
    rcases hcl with q | q
    ·rw [q,show strOfNums (Po.nm true 3)=⟨#[73,78,70]⟩ from rfl] at LD
     rw [q] at CL
     clear q
     go_enter Tryz.func132,Tryz.ntmps132
     go_wp2_with fail
     with_reducible refine (CK.out _).mono ?_
     rintro e w1 ⟨rfl,b1⟩
     have B1:=hid (B0.out.on b1)
     clear b1 B0 CK
     obtain ⟨c0,c1,c2,c3⟩:=B1.out.flat
     go_wp2_with fail
     with_reducible refine (CL.out _).mono ?_
     rintro e w2 ⟨rfl,b2⟩
     have B2:=hid (B1.out.on b2)
     clear b2 B1 CL c0 c1 c2 c3
     obtain ⟨c0,c1,c2,c3⟩:=B2.out.flat
     go_wp2_with fail
     with_reducible refine (LD.out _).mono ?_
     rintro e w3 ⟨rfl,b3⟩
     have B3:=hid (B2.out.on b3)
     clear b3 B2 LD c0 c1 c2 c3
     go_wp2_with fail
     go_ret3
     exact G.out _ B3.out.bel
    ·rw [q,show strOfNums (Po.nm true 4)=⟨#[78,65,78]⟩ from rfl] at LD
     rw [q] at CL
     clear q
     go_enter Tryz.func132,Tryz.ntmps132
     go_wp2_with fail
     with_reducible refine (CK.out _).mono ?_
     rintro e w1 ⟨rfl,b1⟩
     have B1:=hid (B0.out.on b1)
     clear b1 B0 CK
     obtain ⟨c0,c1,c2,c3⟩:=B1.out.flat
     go_wp2_with fail
     with_reducible refine (CL.out _).mono ?_
     rintro e w2 ⟨rfl,b2⟩
     have B2:=hid (B1.out.on b2)
     clear b2 B1 CL c0 c1 c2 c3
     obtain ⟨c0,c1,c2,c3⟩:=B2.out.flat
     go_wp2_with fail
     with_reducible refine (LD.out _).mono ?_
     rintro e w3 ⟨rfl,b3⟩
     have B3:=hid (B2.out.on b3)
     clear b3 B2 LD c0 c1 c2 c3
     go_wp2_with fail
     go_ret3
     exact G.out _ B3.out.bel
   ·have cf:Po.cap 71=true:=by decide
    rw [cf] at LD
    clear CP cf
    rcases hcl with q | q
    ·rw [q,show strOfNums (Po.nm true 3)=⟨#[73,78,70]⟩ from rfl] at LD
     rw [q] at CL
     clear q
     go_enter Tryz.func132,Tryz.ntmps132
     go_wp2_with fail
     with_reducible refine (CK.out _).mono ?_
     rintro e w1 ⟨rfl,b1⟩
     have B1:=hid (B0.out.on b1)
     clear b1 B0 CK
     obtain ⟨c0,c1,c2,c3⟩:=B1.out.flat
     go_wp2_with fail
     with_reducible refine (CL.out _).mono ?_
     rintro e w2 ⟨rfl,b2⟩
     have B2:=hid (B1.out.on b2)
     clear b2 B1 CL c0 c1 c2 c3
     obtain ⟨c0,c1,c2,c3⟩:=B2.out.flat
     go_wp2_with fail
     with_reducible refine (LD.out _).mono ?_
     rintro e w3 ⟨rfl,b3⟩
     have B3:=hid (B2.out.on b3)
     clear b3 B2 LD c0 c1 c2 c3
     go_wp2_with fail
     go_ret3
     exact G.out _ B3.out.bel
    ·rw [q,show strOfNums (Po.nm true 4)=⟨#[78,65,78]⟩ from rfl] at LD
     rw [q] at CL
     clear q
     go_enter Tryz.func132,Tryz.ntmps132
     go_wp2_with fail
     with_reducible refine (CK.out _).mono ?_
     rintro e w1 ⟨rfl,b1⟩
     have B1:=hid (B0.out.on b1)
     clear b1 B0 CK
     obtain ⟨c0,c1,c2,c3⟩:=B1.out.flat
     go_wp2_with fail
     with_reducible refine (CL.out _).mono ?_
     rintro e w2 ⟨rfl,b2⟩
     have B2:=hid (B1.out.on b2)
     clear b2 B1 CL c0 c1 c2 c3
     obtain ⟨c0,c1,c2,c3⟩:=B2.out.flat
     go_wp2_with fail
     with_reducible refine (LD.out _).mono ?_
     rintro e w3 ⟨rfl,b3⟩
     have B3:=hid (B2.out.on b3)
     clear b3 B2 LD c0 c1 c2 c3
     go_wp2_with fail
     go_ret3
     exact G.out _ B3.out.bel
   ·have cf:Po.cap 88=true:=by decide
    rw [cf] at LD
    clear CP cf
    rcases hcl with q | q
    ·rw [q,show strOfNums (Po.nm true 3)=⟨#[73,78,70]⟩ from rfl] at LD
     rw [q] at CL
     clear q
     go_enter Tryz.func132,Tryz.ntmps132
     go_wp2_with fail
     with_reducible refine (CK.out _).mono ?_
     rintro e w1 ⟨rfl,b1⟩
     have B1:=hid (B0.out.on b1)
     clear b1 B0 CK
     obtain ⟨c0,c1,c2,c3⟩:=B1.out.flat
     go_wp2_with fail
     with_reducible refine (CL.out _).mono ?_
     rintro e w2 ⟨rfl,b2⟩
     have B2:=hid (B1.out.on b2)
     clear b2 B1 CL c0 c1 c2 c3
     obtain ⟨c0,c1,c2,c3⟩:=B2.out.flat
     go_wp2_with fail
     with_reducible refine (LD.out _).mono ?_
     rintro e w3 ⟨rfl,b3⟩
     have B3:=hid (B2.out.on b3)
     clear b3 B2 LD c0 c1 c2 c3
     go_wp2_with fail
     go_ret3
     exact G.out _ B3.out.bel
    ·rw [q,show strOfNums (Po.nm true 4)=⟨#[78,65,78]⟩ from rfl] at LD
     rw [q] at CL
     clear q
     go_enter Tryz.func132,Tryz.ntmps132
     go_wp2_with fail
     with_reducible refine (CK.out _).mono ?_
     rintro e w1 ⟨rfl,b1⟩
     have B1:=hid (B0.out.on b1)
     clear b1 B0 CK
     obtain ⟨c0,c1,c2,c3⟩:=B1.out.flat
     go_wp2_with fail
     with_reducible refine (CL.out _).mono ?_
     rintro e w2 ⟨rfl,b2⟩
     have B2:=hid (B1.out.on b2)
     clear b2 B1 CL c0 c1 c2 c3
     obtain ⟨c0,c1,c2,c3⟩:=B2.out.flat
     go_wp2_with fail
     with_reducible refine (LD.out _).mono ?_
     rintro e w3 ⟨rfl,b3⟩
     have B3:=hid (B2.out.on b3)
     clear b3 B2 LD c0 c1 c2 c3
     go_wp2_with fail
     go_ret3
     exact G.out _ B3.out.bel
   ·have cf:Po.cap V=false:=by rw [CP];exact decide_eq_false (by omega)
    have r1:(V == 69)=false:=by simpa using q1
    have r2:(V == 70)=false:=by simpa using q2
    have r3:(V == 71)=false:=by simpa using q3
    have r4:(V == 88)=false:=by simpa using q4
    rw [cf] at LD
    clear CP cf
    rcases hcl with q | q
    ·rw [q,show strOfNums (Po.nm false 3)=⟨#[105,110,102]⟩ from rfl] at LD
     rw [q] at CL
     clear q
     go_enter Tryz.func132,Tryz.ntmps132
     go_wp2_with fail
     with_reducible refine (CK.out _).mono ?_
     rintro e w1 ⟨rfl,b1⟩
     have B1:=hid (B0.out.on b1)
     clear b1 B0 CK
     obtain ⟨c0,c1,c2,c3⟩:=B1.out.flat
     go_wp2_with fail
     with_reducible refine (CL.out _).mono ?_
     rintro e w2 ⟨rfl,b2⟩
     have B2:=hid (B1.out.on b2)
     clear b2 B1 CL c0 c1 c2 c3
     obtain ⟨c0,c1,c2,c3⟩:=B2.out.flat
     go_wp2_with fail
     with_reducible refine (LD.out _).mono ?_
     rintro e w3 ⟨rfl,b3⟩
     have B3:=hid (B2.out.on b3)
     clear b3 B2 LD c0 c1 c2 c3
     go_wp2_with fail
     go_ret3
     exact G.out _ B3.out.bel
    ·rw [q,show strOfNums (Po.nm false 4)=⟨#[110,97,110]⟩ from rfl] at LD
     rw [q] at CL
     clear q
     go_enter Tryz.func132,Tryz.ntmps132
     go_wp2_with fail
     with_reducible refine (CK.out _).mono ?_
     rintro e w1 ⟨rfl,b1⟩
     have B1:=hid (B0.out.on b1)
     clear b1 B0 CK
     obtain ⟨c0,c1,c2,c3⟩:=B1.out.flat
     go_wp2_with fail
     with_reducible refine (CL.out _).mono ?_
     rintro e w2 ⟨rfl,b2⟩
     have B2:=hid (B1.out.on b2)
     clear b2 B1 CL c0 c1 c2 c3
     obtain ⟨c0,c1,c2,c3⟩:=B2.out.flat
     go_wp2_with fail
     with_reducible refine (LD.out _).mono ?_
     rintro e w3 ⟨rfl,b3⟩
     have B3:=hid (B2.out.on b3)
     clear b3 B2 LD c0 c1 c2 c3
     go_wp2_with fail
     go_ret3
     exact G.out _ B3.out.bel
 ·have G:Hid (∀w',Below w.heap.size w w'→SpcTold V F W P d w (.returned (.tuple #[.string ⟨#[]⟩,.bool false,.int .i64 (Wh.chk F W P)])) w'):=fun w' k=>⟨by rw [Po.spc,if_neg (fun q=>hc q.1),Po.spb,decide_eq_false hc];rfl,k⟩
  have hne:(Wh.chk F W P != 0)=true:=by simpa using hc
  have hne2:(Wh.chk F W P == 0)=false:=by simpa using hc
  clear hc
  generalize Wh.chk F W P=E at *
  go_enter Tryz.func132,Tryz.ntmps132
  go_wp2_with fail
  with_reducible refine (CK.out _).mono ?_
  rintro e w1 ⟨rfl,b1⟩
  have B1:=hid (B0.out.on b1)
  clear b1 B0 CK
  go_wp2_with fail
  go_ret3
  exact G.out _ B1.out.bel
end Go.Proofs.YtbdhlfklcdegdaaGreatDoor

namespace Go.Proofs.YtbdhlfklcdegdaaGreatDoor
open Go Go.RowKit Go.Deep Go.Shelf
theorem pw_bd {a b:Nat} (h:4*a+b<262144):(10:Int)^a*2^b<Nm.pw 4096:=by
 rw [Nm.pw_two]
 obtain ⟨K,hK⟩:∃K:Nat,64*4096=K:=⟨_,rfl⟩
 rw [hK]
 have hK2:4*a+b<K:=by omega
 clear hK h
 have h1:(10:Int)^a≤2^(4*a):=by
  have:(10^a:Nat)≤16^a:=Nat.pow_le_pow_left (by omega) a
  rw [show (16:Nat)=2^4 from rfl,←Nat.pow_mul] at this
  exact_mod_cast this
 have h2:(10:Int)^a*2^b≤2^(4*a)*2^b:=Int.mul_le_mul_of_nonneg_right h1 (Int.le_of_lt (Int.pow_pos (by omega)))
 rw [←Int.pow_add] at h2
 have h3:(2:Int)^(4*a+b)<2^K:=by
  have:(2^(4*a+b):Nat)<2^K:=Nat.pow_lt_pow_right (by omega) hK2
  exact_mod_cast this
 omega
theorem pw_bdm {m:Int} {a b:Nat} (m0:0≤m) (m1:m<18446744073709551616) (h:4*a+b<262000):m*10^a*2^b<Nm.pw 4096:=by
 have h1:=pw_bd (a:=a) (b:=b+64) (by omega)
 have p1:(0:Int)<10^a*2^b:=Int.mul_pos (Int.pow_pos (by omega)) (Int.pow_pos (by omega))
 have h2:m*(10^a*2^b)≤18446744073709551616*(10^a*2^b):=Int.mul_le_mul_of_nonneg_right (by omega) (Int.le_of_lt p1)
 rw [Int.pow_add,show (2:Int)^64=18446744073709551616 from rfl,←Int.mul_assoc,Int.mul_comm] at h1
 rw [Int.mul_assoc]
 omega
def TenTold (k:Nat) (w:World) (e:Ending) (w':World):Prop:=∃r os,e=.returned (.slice r (List.length os) (List.length os))∧Ans w.heap.size w' r os (10^k)∧Below w.heap.size w w'
set_option maxRecDepth 100000 in
theorem xten_any (k:Int) (w:World) (hk:k≤10000) (hk0:-9223372036854775808≤k):Calls Tryz.prog 287 #[.int .i64 k] w fun e w'=>TenTold k.toNat w e w':=by
 have G:∀(n:Nat),n≤10000→∀e w',Gives (10^n) w e w'→∃r os,e=.returned (.tuple #[.slice r (List.length os) (List.length os),.int .i64 0])∧Ans w.heap.size w' r os (10^n)∧Below w.heap.size w w':=by
  rintro n hn e w' ⟨h | h,hb⟩
  ·obtain ⟨-,r,os,he,ha⟩:=h
   exact ⟨r,os,he,ha,hb⟩
  ·have:=pw_bd (a:=n) (b:=0) (by omega)
   rw [Int.pow_zero,Int.mul_one] at this
   omega
 by_cases h:k<0
 ·have P:=hid ((rpow10_gives 0 0 w rfl (by omega)).mono (G 0 (by omega)))
  rw [show k.toNat=0 by omega]
  clear G hk
  go_enter Tryz.func287,Tryz.ntmps287
  go_wp2_with fail
  with_reducible refine P.out.mono ?_
  rintro e w1 ⟨r,os,rfl,a,b⟩
  have F:Hid (TenTold 0 w (.returned (.slice r (List.length os) (List.length os))) w1):=⟨r,os,rfl,a,b⟩
  clear a b P
  go_wp2_with fail
  go_ret
  exact F.out
 ·have P:=hid ((rpow10_gives k k.toNat w (by omega) (by omega)).mono (G k.toNat (by omega)))
  clear G hk
  generalize k.toNat=n at *
  go_enter Tryz.func287,Tryz.ntmps287
  go_wp2_with fail
  with_reducible refine P.out.mono ?_
  rintro e w1 ⟨r,os,rfl,a,b⟩
  have F:Hid (TenTold n w (.returned (.slice r (List.length os) (List.length os))) w1):=⟨r,os,rfl,a,b⟩
  clear a b P
  go_wp2_with fail
  go_ret
  exact F.out
def ScTold (m x e:Int) (w:World) (en:Ending) (w':World):Prop:=∃r os s us,en=.returned (.tuple #[.slice r (List.length os) (List.length os),.slice s (List.length us) (List.length us)])∧Ans w.heap.size w' r os (m*10^(-e).toNat*2^x.toNat)∧Ans w.heap.size w' s us (10^e.toNat*2^(-x).toNat)∧Below w.heap.size w w'
set_option maxRecDepth 100000 in
set_option maxHeartbeats 2000000 in
theorem xscaled_any (m x e:Int) (w:World) (m0:0≤m) (m1:m<18446744073709551616) (x0:-2000≤x) (x1:x≤2000) (e0:-10000≤e) (e1:e≤10000):
  Calls Tryz.prog 272 #[.int .u64 m,.int .i64 x,.int .i64 e] w fun en w'=>ScTold m x e w en w':=by
 have bA:=hid (alloc_b w (.cells #[.int .u64 m] 24))
 have A0:Hid (Arg (w.alloc (.cells #[.int .u64 m] 24)) (some ⟨w.heap.size,0,none⟩) 1 1 [m]):=⟨rfl,Nat.le_refl _,by omega,(Own.alloc w [m]).lies,limb_one ⟨m0,m1⟩⟩
 have T1:=hid (fun W'=>xten_any (-e) W' (by omega) (by omega))
 have T2:=hid (fun W'=>xten_any e W' (by omega) (by omega))
 have p1:Hid ((10:Int)^(-e).toNat<Nm.pw 4096):=by have:=pw_bd (a:=(-e).toNat) (b:=0) (by omega);rw [Int.pow_zero,Int.mul_one] at this;exact this
 have p2:Hid ((10:Int)^e.toNat<Nm.pw 4096):=by have:=pw_bd (a:=e.toNat) (b:=0) (by omega);rw [Int.pow_zero,Int.mul_one] at this;exact this
 have p3:Hid (m*(10:Int)^(-e).toNat<Nm.pw 4096):=by have:=pw_bdm (a:=(-e).toNat) (b:=0) m0 m1 (by omega);rw [Int.pow_zero,Int.mul_one] at this;exact this
 have LX:Hid (0≤x→x.toNat≤2000∧x=(x.toNat:Int)∧(-x).toNat=0):=fun h=>⟨by omega,by omega,by omega⟩
 have LY:Hid (¬0≤x→(-x).toNat≤2000∧-x=((-x).toNat:Int)∧x.toNat=0):=fun h=>⟨by omega,by omega,by omega⟩
 obtain ⟨ee,hee⟩:∃ee,-e=ee:=⟨_,rfl⟩
 rw [hee] at T1
 replace hee:=hid hee
 clear m0 m1
 go_enter Tryz.func272,Tryz.ntmps272
 go_wp2_with fail
 (try rw [hee.out])
 with_reducible refine (T1.out _).mono ?_
 rintro en w1 ⟨r1,o1,rfl,a1,b1⟩
 rw [←hee.out] at a1
 have TM:=hid (times_any _ r1 1 1 _ _ [m] o1 w1 (A0.out.below b1 (Nat.le_refl _)) (a1.argT p1.out) (Nat.le_trans (Nm.tsize_le _) (by simp)) (Nat.le_trans (a1.tsT p1.out) (by omega)))
 have B1:=hid (below_on bA.out b1)
 have V1:=hid a1.2.2.2.1
 clear a1 b1 T1 A0 bA
 go_wp2_with fail
 with_reducible refine TM.out.mono ?_
 rintro en w2 ⟨r2,o2,rfl,a2,b2⟩
 rw [V1.out,show Nm.val [m]=m by simp [Nm.val]] at a2
 have B2:=hid (below_on B1.out b2)
 have A2:=hid (a2.upT B1.out.size)
 clear a2 b2 TM V1
 go_wp2_with fail
 with_reducible refine (T2.out _).mono ?_
 rintro en w3 ⟨r3,o3,rfl,a3,b3⟩
 have B3:=hid (below_on B2.out b3)
 have A3:=hid (a3.upT B2.out.size)
 have A4:=hid (A2.out.below b3 (Nat.le_refl _))
 clear a3 b3 T2 A2 B1 B2
 by_cases hx:0≤x
 ·obtain ⟨l1,l2,l3⟩:=LX.out hx
  have LF:=hid (lift_any r2 _ _ o2 x x.toNat w3 (A4.out.argT p3.out) (Nat.le_trans (A4.out.tsT p3.out) (by omega)) l2 (by omega))
  have F:Hid (∀r4 o4 w4,Ans w3.heap.size w4 r4 o4 (Nm.val o2*2^x.toNat)→Below w3.heap.size w3 w4→ScTold m x e w (.returned (.tuple #[.slice r4 (List.length o4) (List.length o4),.slice r3 (List.length o3) (List.length o3)])) w4):=by
   intro r4 o4 w4 a4 b4
   rw [A4.out.2.2.2.1] at a4
   refine ⟨r4,o4,r3,o3,rfl,a4.upT B3.out.size,?_,below_on B3.out b4⟩
   rw [l3,Int.pow_zero,Int.mul_one]
   exact A3.out.below b4 (Nat.le_refl _)
  clear LX LY l1 l2 l3 A3 A4 B3 p1 p2 p3
  go_wp2_with fail
  with_reducible refine LF.out.mono ?_
  rintro en w4 ⟨r4,o4,rfl,a4,b4⟩
  have G:=hid (F.out _ _ _ a4 b4)
  clear a4 b4 LF F
  go_wp2_with fail
  go_ret2
  exact G.out
 ·obtain ⟨l1,l2,l3⟩:=LY.out (by omega)
  have LF:=hid (lift_any r3 _ _ o3 (-x) (-x).toNat w3 (A3.out.argT p2.out) (Nat.le_trans (A3.out.tsT p2.out) (by omega)) l2 (by omega))
  have F:Hid (∀r4 o4 w4,Ans w3.heap.size w4 r4 o4 (Nm.val o3*2^(-x).toNat)→Below w3.heap.size w3 w4→ScTold m x e w (.returned (.tuple #[.slice r2 (List.length o2) (List.length o2),.slice r4 (List.length o4) (List.length o4)])) w4):=by
   intro r4 o4 w4 a4 b4
   rw [A3.out.2.2.2.1] at a4
   refine ⟨r2,o2,r4,o4,rfl,?_,a4.upT B3.out.size,below_on B3.out b4⟩
   rw [l3,Int.pow_zero,Int.mul_one]
   exact A4.out.below b4 (Nat.le_refl _)
  clear LX LY l1 l2 l3 A3 A4 B3 p1 p2 p3
  go_wp2_with fail
  with_reducible refine LF.out.mono ?_
  rintro en w4 ⟨r4,o4,rfl,a4,b4⟩
  have G:=hid (F.out _ _ _ a4 b4)
  clear a4 b4 LF F
  go_wp2_with fail
  go_ret2
  exact G.out
def Po.atl (m x e:Int):Bool:=decide (10^e.toNat*2^(-x).toNat≤m*10^(-e).toNat*2^x.toNat)
set_option maxRecDepth 100000 in
theorem xatLeast_any (m x e:Int) (w:World) (m0:0≤m) (m1:m<18446744073709551616) (x0:-2000≤x) (x1:x≤2000) (e0:-10000≤e) (e1:e≤10000):
  Calls Tryz.prog 274 #[.int .u64 m,.int .i64 x,.int .i64 e] w fun en w'=>en=.returned (.bool (Po.atl m x e))∧Below w.heap.size w w':=by
 have SC:=hid (xscaled_any m x e w m0 m1 x0 x1 e0 e1)
 have q1:Hid (m*10^(-e).toNat*2^x.toNat<Nm.pw 4096):=pw_bdm m0 m1 (by omega)
 have q2:Hid ((10:Int)^e.toNat*2^(-x).toNat<Nm.pw 4096):=pw_bd (by omega)
 have E:Hid (Po.atl m x e=decide (0≤cmpI (m*10^(-e).toNat*2^x.toNat) (10^e.toNat*2^(-x).toNat))):=by
  show Po.atl m x e=_
  unfold Po.atl cmpI
  congr 1
  apply propext
  split
  ·omega
  ·split <;> omega
 clear m0 m1 x0 x1 e0 e1
 unfold ScTold at SC
 generalize m*10^(-e).toNat*2^x.toNat=N at *
 generalize (10:Int)^e.toNat*2^(-x).toNat=D at *
 generalize Po.atl m x e=bb at *
 go_enter Tryz.func274,Tryz.ntmps274
 go_wp2_with fail
 with_reducible refine SC.out.mono ?_
 rintro en w1 ⟨r,os,s,us,rfl,a1,a2,b1⟩
 have CM:=hid (refCmp_any r s _ _ _ _ os us w1 (a1.argT q1.out) (a2.argT q2.out))
 rw [a1.2.2.2.1,a2.2.2.2.1] at CM
 have B1:=hid b1
 clear a1 a2 b1 SC q1 q2
 generalize cmpI N D=cc at *
 go_wp2_with fail
 with_reducible refine CM.out.mono ?_
 rintro en w2 ⟨rfl,b2⟩
 have B2:=hid (below_on B1.out b2)
 clear b2 B1 CM
 go_wp2_with fail
 go_ret
 exact ⟨by rw [E.out];rfl,B2.out⟩
end Go.Proofs.YtbdhlfklcdegdaaGreatDoor

namespace Go.Proofs.YtbdhlfklcdegdaaGreatDoor
open Go Go.RowKit Go.Deep Go.Shelf
theorem Po.blen_bd {m:Int} {L:Nat} (m1:0<m) (m2:m<18446744073709551616) (h:Nm.BLen m L):1≤L∧L≤64:=by
 obtain ⟨a,b⟩:=h.2.2 m1
 refine ⟨a,?_⟩
 rcases Nat.lt_or_ge 64 L with c | c
 ·exfalso
  have:(2:Int)^64≤2^(L - 1):=by
   have q:(2^64:Nat)≤2^(L - 1):=Nat.pow_le_pow_right (by omega) (by omega)
   exact_mod_cast q
  have e:(2:Int)^64=18446744073709551616:=rfl
  omega
 ·exact c
set_option maxRecDepth 100000 in
set_option maxHeartbeats 4000000 in
theorem xtens_any (m x K:Int) (w:World) (m0:0<m) (m1:m<18446744073709551616) (x0:-1100≤x) (x1:x≤1000) (hK:∀k,-1000≤k→k≤1000→Po.atl m x k=decide (k≤K)) (k0:-400≤K) (k1:K≤400):
  Calls Tryz.prog 251 #[.int .u64 m,.int .i64 x] w fun e w'=>e=.returned (.int .i64 K)∧Below w.heap.size w w':=by
 have bA:=hid (alloc_b w (.cells #[.int .u64 m] 24))
 have A0:Arg (w.alloc (.cells #[.int .u64 m] 24)) (some ⟨w.heap.size,0,none⟩) 1 1 [m]:=⟨rfl,Nat.le_refl _,by omega,(Own.alloc w [m]).lies,limb_one ⟨by omega,m1⟩⟩
 have BL:=hid (refBitLen_any _ 1 1 [m] _ A0)
 have AL:Hid (∀W' k,-1000≤k→k≤1000→Calls Tryz.prog 274 #[.int .u64 m,.int .i64 x,.int .i64 k] W' fun en w'=>en=.returned (.bool (decide (k≤K)))∧Below W'.heap.size W' w'):=by
  intro W' k h1 h2
  have:=xatLeast_any m x k W' (by omega) m1 (by omega) (by omega) (by omega) (by omega)
  rw [hK k h1 h2] at this
  exact this
 have LB:Hid (∀L:Nat,Nm.BLen (Nm.val [m]) L→1≤L∧L≤64):=fun L h=>Po.blen_bd m0 m1 (by rw [show Nm.val [m]=m by simp [Nm.val]] at h;exact h)
 clear A0 hK m0 m1
 go_enter Tryz.func251,Tryz.ntmps251
 go_wp2_with fail
 with_reducible refine BL.out.mono ?_
 rintro e w1 ⟨⟨L,rfl,hL⟩,hw⟩
 obtain ⟨l1,l2⟩:=LB.out L hL
 rw [hw]
 clear hw hL LB BL w1
 have li1:(1:Int)≤(L:Int):=by omega
 have li2:(L:Int)≤64:=by omega
 clear l1 l2
 obtain ⟨q,hq,q0,q1⟩:∃q,(((L:Int) - 1+x)*30103).tdiv 100000=q∧-800≤q∧q≤800:=by
  refine ⟨_,rfl,?_,?_⟩
  ·rcases (show 0≤((L:Int) - 1+x)*30103∨((L:Int) - 1+x)*30103<0 by omega) with c | c
   ·have:=Int.tdiv_nonneg c (show (0:Int)≤100000 by omega);omega
   ·have e:(((L:Int) - 1+x)*30103).tdiv 100000=-((-(((L:Int) - 1+x)*30103)).tdiv 100000):=by rw [Int.neg_tdiv];omega
    rw [e,Int.tdiv_eq_ediv_of_nonneg (by omega)]
    omega
  ·rcases (show 0≤((L:Int) - 1+x)*30103∨((L:Int) - 1+x)*30103<0 by omega) with c | c
   ·rw [Int.tdiv_eq_ediv_of_nonneg c];omega
   ·have e:(((L:Int) - 1+x)*30103).tdiv 100000=-((-(((L:Int) - 1+x)*30103)).tdiv 100000):=by rw [Int.neg_tdiv];omega
    rw [e,Int.tdiv_eq_ediv_of_nonneg (by omega)]
    omega
 go_wp2_with fail
 go_loopg [6] (q - K).toNat (fun g v wr=>∃j:Int,v=.int .i64 j∧(j - K).toNat=g∧-900≤j∧j≤900∧Hid (Below w.heap.size w wr))
 case atStart=>exact ⟨q,by first | rfl | rw [hq],rfl,by omega,by omega,bA⟩
 case round=>
  obtain ⟨j,rfl,hg,j0,j1,B1⟩:=hrel
  clear bA hq
  by_cases hj:j≤K
  ·have hd:decide (j≤K)=true:=decide_eq_true hj
   have A1:=hid (AL.out wr j (by omega) (by omega))
   rw [hd] at A1
   replace hg:=hid hg
   go_wp2_with fail
   with_reducible refine A1.out.mono ?_
   rintro e w2 ⟨rfl,b2⟩
   have B2:=hid (below_on B1.out b2)
   clear b2 A1 B1 hg hd
   go_wp2_with fail
   go_loopg [6] (K - j).toNat (fun g v wr=>∃i:Int,v=.int .i64 i∧(K - i).toNat=g∧i≤K∧-900≤i∧Hid (Below w.heap.size w wr))
   case atStart=>exact ⟨j,rfl,rfl,hj,j0,B2⟩
   case round=>
    obtain ⟨i,rfl,hgi,hi,i0,B3⟩:=hrel
    clear B2
    by_cases hi1:i+1≤K
    ·have hd:decide (i+1≤K)=true:=decide_eq_true hi1
     have A1:=hid (AL.out wr (i+1) (by omega) (by omega))
     rw [hd] at A1
     replace hgi:=hid hgi
     go_wp2_with fail
     with_reducible refine A1.out.mono ?_
     rintro e w4 ⟨rfl,b4⟩
     have B4:=hid (below_on B3.out b4)
     clear b4 A1 B3 hd
     go_wp2_with fail
     go_roundg ((K - (i+1)).toNat)
     case measure=>have:=hgi.out;omega
     case rel=>exact ⟨i+1,rfl,rfl,hi1,by omega,B4⟩
    ·have hd:decide (i+1≤K)=false:=decide_eq_false hi1
     have A1:=hid (AL.out wr (i+1) (by omega) (by omega))
     rw [hd] at A1
     have hiK:Hid (i=K):=by show i=K;omega
     replace hgi:=hid hgi
     go_wp2_with fail
     with_reducible refine A1.out.mono ?_
     rintro e w4 ⟨rfl,b4⟩
     have B4:=hid (below_on B3.out b4)
     clear b4 A1 B3 hd
     go_wp2_with fail
     go_ret
     exact ⟨by have q:=hiK.out;rw [←q];rfl,B4.out⟩
  ·have hd:decide (j≤K)=false:=decide_eq_false hj
   have A1:=hid (AL.out wr j (by omega) (by omega))
   rw [hd] at A1
   replace hg:=hid hg
   go_wp2_with fail
   with_reducible refine A1.out.mono ?_
   rintro e w2 ⟨rfl,b2⟩
   have B2:=hid (below_on B1.out b2)
   clear b2 A1 B1 hd
   go_wp2_with fail
   go_roundg ((j - 1 - K).toNat)
   case measure=>have:=hg.out;omega
   case rel=>exact ⟨j - 1,rfl,rfl,by omega,by omega,B2⟩
end Go.Proofs.YtbdhlfklcdegdaaGreatDoor

namespace Go.Proofs.YtbdhlfklcdegdaaGreatDoor
open Go Go.RowKit Go.Deep Go.Shelf
structure Po.RdT (V:Int) (xs:List Int):Prop where
 digs:Digs xs
 ne:xs≠[]
 val:dv xs=V
 zero:V=0→xs=[48]
 head:0<V→xs.getD 0 0≠48
theorem Po.rdt_in {os:List Int} {V:Int} {xs:List Int} {E:Int} (hz:Nm.Limbs os) (hv:Nm.val os=V) (h0:0≤V) (ht:Nm.tsize os≤4096) (h:InIs os 10 false xs E):Po.RdT V xs:=by
 cases h with
 | big c=>omega
 | base _ c=>omega
 | zero c _ _=>
  have:=(Nm.tsize_zero_iff hz).1 c
  refine ⟨fun x hx=>by simp at hx;omega,by simp,?_,fun _=>rfl,fun c=>by omega⟩
  rw [←hv,this]
  decide
 | ok L c1 c2 c3 c4 c5=>
  rw [hv] at c5 ⊢
  have hp:0<V:=by
   have:=Nm.tsize_zero_iff hz
   rcases (show V=0∨0<V by omega) with q | q
   ·have:=this.2 (by rw [hv];exact q);omega
   ·exact q
  have mem:∀d∈Dn.strip (Dn.dg 10 L V),0≤d∧d<10:=fun d hd=>Dn.dg_mem (by omega) L V d (Dn.strip_mem hd)
  have e:lets (lettersOf false) (Dn.strip (Dn.dg 10 L V))=(Dn.strip (Dn.dg 10 L V)).map (fun d=>d+48):=List.map_congr_left fun d hd=>small_dig d (mem d hd).1 (mem d hd).2
  have v:Dn.tv 10 0 (Dn.strip (Dn.dg 10 L V))=V:=by rw [Dn.tv_strip];exact Dn.tv_dg (by omega) L V (by omega) c5
  have ne:Dn.strip (Dn.dg 10 L V)≠[]:=by
   intro c
   rw [c] at v
   simp [Dn.tv] at v
   omega
  rw [e]
  refine ⟨?_,by simpa using ne,?_,fun c=>by omega,fun _=>?_⟩
  ·intro d hd
   obtain ⟨x,hx,rfl⟩:=List.mem_map.1 hd
   have:=mem x hx
   omega
  ·unfold dv
   rw [List.map_map,show ((fun d:Int=>d - 48) ∘ fun d=>d+48)=id from funext fun d=>by simp,List.map_id]
   exact v
  ·match hm:Dn.strip (Dn.dg 10 L V),ne with
   | x::ys,_=>
    have:=Dn.strip_head hm
    simp
    omega
def Po.rnd (d p:Int):Int:=nearI (Ie.dm d*10^p.toNat*2^(Ie.de d).toNat) (10^(-p).toNat*2^(-(Ie.de d)).toNat)
theorem Po.nearI_bd {A B:Int} (hA:0≤A) (hB:0<B):0≤nearI A B∧nearI A B≤A+1:=by
 have e2:0≤A/B:=Int.ediv_nonneg hA (by omega)
 have e3:A/B≤A:=Int.ediv_le_self _ hA
 unfold nearI
 split <;> omega
def RdTold (d p:Int) (w:World) (e:Ending) (w':World):Prop:=∃xs,e=.returned (.string (strOfNums xs))∧Po.RdT (Po.rnd d p) xs∧Below w.heap.size w w'
set_option maxRecDepth 100000 in
set_option maxHeartbeats 4000000 in
theorem xrounded_any (d p:Int) (w:World) (h0:0≤d) (h1:d<18446744073709551616) (hf:Ie.fnt d=true) (p0:-9000≤p) (p1:p≤9000):
  Calls Tryz.prog 250 #[.int .u64 d,.int .i64 p] w fun e w'=>RdTold d p w e w':=by
 obtain ⟨m0,m1,e0,e1,_⟩:=Ie.fdec d (of_decide_eq_true hf)
 have D:=hid (zdecode_any d w h0 h1)
 have SC:=hid (fun W'=>xscaled_any (Ie.dm d) (Ie.de d) (-p) W' m0 (by omega) (by omega) (by omega) (by omega) (by omega))
 have q1:Hid (Ie.dm d*10^p.toNat*2^(Ie.de d).toNat<Nm.pw 4096∧Ie.dm d*10^p.toNat*2^(Ie.de d).toNat+1<Nm.pw 4096):=by
  have:=pw_bdm (m:=Ie.dm d) (a:=p.toNat) (b:=(Ie.de d).toNat) m0 (by omega) (by omega)
  have k:=pw_bdm (m:=Ie.dm d+1) (a:=p.toNat) (b:=(Ie.de d).toNat) (by omega) (by omega) (by omega)
  have pp:(0:Int)<10^p.toNat*2^(Ie.de d).toNat:=Int.mul_pos (Int.pow_pos (by omega)) (Int.pow_pos (by omega))
  rw [Int.mul_assoc,Int.add_mul,Int.one_mul,←Int.mul_assoc] at k
  exact ⟨this,by omega⟩
 have q2:Hid ((10:Int)^(-p).toNat*2^(-(Ie.de d)).toNat<Nm.pw 4096):=pw_bd (by omega)
 have q3:Hid ((0:Int)<10^(-p).toNat*2^(-(Ie.de d)).toNat):=Int.mul_pos (Int.pow_pos (by omega)) (Int.pow_pos (by omega))
 have q4:Hid (0≤Ie.dm d*10^p.toNat*2^(Ie.de d).toNat):=Int.mul_nonneg (Int.mul_nonneg m0 (Int.le_of_lt (Int.pow_pos (by omega)))) (Int.le_of_lt (Int.pow_pos (by omega)))
 have RN:Hid (Po.rnd d p=nearI (Ie.dm d*10^p.toNat*2^(Ie.de d).toNat) (10^(-p).toNat*2^(-(Ie.de d)).toNat)):=rfl
 unfold ScTold at SC
 simp only [Int.neg_neg] at SC
 unfold RdTold
 generalize Ie.dm d*10^p.toNat*2^(Ie.de d).toNat=A at *
 generalize (10:Int)^(-p).toNat*2^(-(Ie.de d)).toNat=B at *
 generalize Po.rnd d p=V at *
 simp only [partsOf] at D
 generalize decide (9223372036854775808≤d)=neg at *
 clear m0 m1 e0 e1 hf
 generalize Ie.cls d=cc at *
 generalize Ie.dm d=m at *
 generalize Ie.de d=x at *
 go_enter Tryz.func250,Tryz.ntmps250
 go_wp2_with fail
 with_reducible refine D.out.mono ?_
 rintro e w1 ⟨rfl,b1⟩
 have B1:=hid b1
 clear b1 D
 go_wp2_with fail
 with_reducible refine (SC.out _).mono ?_
 rintro e w2 ⟨r,os,s,us,rfl,a1,a2,b2⟩
 have B2:=hid (below_on (Below.alloc B1.out B1.out.size _) b2)
 have hy:0<Nm.tsize us:=by
  rcases Nat.eq_zero_or_pos (Nm.tsize us) with c | c
  ·have:=(Nm.tsize_zero_iff a2.2.1).1 c
   have:=a2.2.2.2.1
   have:=q3.out
   omega
  ·exact c
 have NR:=hid (rnear_ok r s _ _ _ _ os us w2 (a1.argT q1.out.1) (a2.argT q2.out) (a1.tsT q1.out.1) (a2.tsT q2.out) hy)
 rw [a1.2.2.2.1,a2.2.2.2.1,←RN.out] at NR
 clear a1 a2 b2 B1 SC hy
 go_wp2_with fail
 with_reducible refine NR.out.mono ?_
 rintro e w3 ⟨r3,o3,rfl,a3,b3⟩
 have B3:=hid (below_on B2.out b3)
 have vb:0≤V∧V≤A+1:=by rw [RN.out];exact Po.nearI_bd q4.out q3.out
 have vp:V<Nm.pw 4096:=by have:=q1.out.2;omega
 have A3:=hid (a3.argT vp)
 have F:Hid (∀xs E,InIs o3 10 false xs E→Po.RdT V xs):=fun xs E h=>Po.rdt_in a3.2.1 a3.2.2.2.1 vb.1 (a3.tsT vp) h
 have DG:=hid (sdigits_any r3 _ _ o3 w3 A3.out)
 clear a3 b3 B2 NR vb vp A3
 unfold InTold at DG
 go_wp2_with fail
 with_reducible refine DG.out.mono ?_
 rintro e w4 ⟨s4,xs,E,rfl,hs,hi,b4⟩
 have hsx:=str_is hs
 subst hsx
 have G:Hid (∃ys,Ending.returned (.string (strOfNums xs))=.returned (.string (strOfNums ys))∧Po.RdT V ys∧Below w.heap.size w w4):=⟨xs,rfl,F.out _ _ hi,below_on B3.out b4⟩
 clear hs hi b4 F B3 DG
 go_wp2_with fail
 go_ret
 exact G.out
end Go.Proofs.YtbdhlfklcdegdaaGreatDoor

namespace Go.Proofs.YtbdhlfklcdegdaaGreatDoor
open Go Go.RowKit Go.Deep
namespace Po
theorem nr_one {u v A D:Int} (hD:0<D) (h:Fx.Nr u A D) (k:Fx.Nr v A D):u=v:=by
 have key:∀{u v:Int},Fx.Nr u A D→Fx.Nr v A D→¬v+1≤u:=by
  intro u v h k c
  have q:(v+1)*D≤u*D:=Int.mul_le_mul_of_nonneg_right c (Int.le_of_lt hD)
  rw [Int.add_mul,Int.one_mul] at q
  obtain ⟨h1,h2,h3⟩:=h
  obtain ⟨k1,k2,k3⟩:=k
  have e:u*D=(v+1)*D:=by rw [Int.add_mul,Int.one_mul];omega
  have e2:=Int.eq_of_mul_eq_mul_right (by omega) e
  have a:=h3 (.inl (by omega))
  have b:=k3 (.inr (by omega))
  omega
 have a:=key h k
 have b:=key k h
 omega
theorem nr_nearI {A B:Int} (hB:0<B):Fx.Nr (nearI A B) A B:=by
 have e:=Int.emod_add_mul_ediv A B
 have r0:=Int.emod_nonneg A (show B≠0 by omega)
 have r1:=Int.emod_lt_of_pos A hB
 rw [Int.mul_comm] at e
 unfold nearI Fx.Nr
 generalize A%B=r at *
 generalize A/B=q at *
 split
 ·rename_i c
  refine ⟨by omega,by omega,fun t=>?_⟩
  rcases t with t | t
  ·omega
  ·rcases c with c | c
   ·omega
   ·exact c.2
 ·rename_i c
  rw [Int.add_mul,Int.one_mul]
  refine ⟨by omega,by omega,fun t=>?_⟩
  rcases t with t | t
  ·have:q%2≠0:=fun z=>c (.inr ⟨by omega,z⟩)
   omega
  ·omega
theorem dv_ext:∀{xs ys:List Int},Digs xs→Digs ys→xs.length=ys.length→dv xs=dv ys→xs=ys
 | [],[],_,_,_,_=>rfl
 | [],_::_,_,_,h,_=>by simp at h
 | _::_,[],_,_,h,_=>by simp at h
 | x::xs,y::ys,hx,hy,hl,hv=>by
  have hl':xs.length=ys.length:=by simpa using hl
  have dx:Digs xs:=fun z hz=>hx z (by simp [hz])
  have dy:Digs ys:=fun z hz=>hy z (by simp [hz])
  have bx:=dv_bd dx
  have by_:=dv_bd dy
  rw [dv_cons,dv_cons,←hl'] at hv
  rw [←hl'] at by_
  have e:x=y:=by
   generalize (10:Int)^xs.length=T at *
   rcases (show x=y∨x+1≤y∨y+1≤x by omega) with c | c | c
   ·exact c
   ·have q:(x - 48+1)*T≤(y - 48)*T:=Int.mul_le_mul_of_nonneg_right (by omega) (by omega)
    rw [Int.add_mul,Int.one_mul] at q
    omega
   ·have q:(y - 48+1)*T≤(x - 48)*T:=Int.mul_le_mul_of_nonneg_right (by omega) (by omega)
    rw [Int.add_mul,Int.one_mul] at q
    omega
  subst e
  rw [dv_ext dx dy hl' (by omega)]
theorem rnd_W {d:Int} (hf:Ie.fnt d=true) (n:Nat):rnd d (n:Int)=dv (Fx.W d n):=by
 have hD:(0:Int)<2^Fx.dn d:=Int.pow_pos (by omega)
 refine nr_one hD ?_ (Fx.near_W hf n)
 have e:rnd d (n:Int)=nearI (Fx.top d n) (2^Fx.dn d):=by
  unfold rnd Fx.top Fx.dn
  rw [Int.toNat_natCast,show (-(n:Int)).toNat=0 by omega,Int.pow_zero,Int.one_mul]
 rw [e]
 exact nr_nearI hD
theorem rdt_len {V:Int} {xs:List Int} (h:RdT V xs) {k:Nat} (hk:V<10^k) (k1:1≤k):xs.length≤k:=by
 have b:=(dv_bd h.digs).1
 rcases (show V=0∨0<V by have:=h.val;omega) with c | c
 ·rw [h.zero c];simp;omega
 ·obtain ⟨m,hm⟩:∃m,xs.length=m+1:=⟨xs.length - 1,by have:=List.length_pos_iff.2 h.ne;omega⟩
  have:=Fx.head_low h.digs hm (h.head c)
  rw [h.val] at this
  have:=Fx.p_lt (a:=m) (b:=k) (by omega)
  omega
theorem rdt_W {d:Int} {n:Nat} {xs:List Int} (hf:Ie.fnt d=true) (h:RdT (dv (Fx.W d n)) xs):List.replicate (n+1 - xs.length) 48++xs=Fx.W d n:=by
 have wl:=Fx.W_len d n
 have wd:=Fx.W_digs hf n
 have L:(List.replicate (n+1 - xs.length) 48++xs).length=(Fx.W d n).length:=by
  rw [List.length_append,List.length_replicate]
  by_cases c:n+1<(Fx.W d n).length
  ·have wh:=Fx.W_head hf n c
   obtain ⟨m,hm⟩:∃m,(Fx.W d n).length=m+1:=⟨(Fx.W d n).length - 1,by omega⟩
   have lo:=Fx.head_low wd hm wh
   have pp:=Fx.p_pos m
   have:=Fx.len_eq h.digs wd h.ne (fun q=>by rw [q] at c;simp at c) (h.head (by omega)) wh h.val
   omega
  ·have b:=(dv_bd wd).2
   rw [show (Fx.W d n).length=n+1 by omega] at b
   have:=rdt_len h b (by omega)
   omega
 refine dv_ext ?_ wd L ?_
 ·intro x hx
  rcases List.mem_append.1 hx with q | q
  ·have:=List.eq_of_mem_replicate q;omega
  ·exact h.digs x q
 ·rw [dv_append,dv_zeros,Int.zero_mul,Int.zero_add]
  exact h.val
noncomputable def tK (d:Int):Int:=(Fx.X d).length - 1+Fx.P d
theorem rnd_G {d:Int} (hf:Ie.fnt d=true) (hm:0<Ie.dm d) {n:Nat}:rnd d ((n:Int) - 1 - tK d)=dv (Fx.kp (Fx.X d) n):=by
 obtain ⟨m0,m1,e0,e1,_⟩:=Ie.fdec d (of_decide_eq_true hf)
 have q:=Fx.ex_pow hm e0 (Fx.X_ex hf)
 have lo:=(Fx.X_ex hf).lo
 have hx:=(Fx.X_digs hf).1
 obtain ⟨a,ha⟩:∃a:Nat,Fx.P d+1074=(a:Int):=⟨(Fx.P d+1074).toNat,by have:=(Fx.X_room hf).2.2.1;omega⟩
 rw [show (Fx.P d+1074).toNat=a by omega] at q
 unfold rnd
 obtain ⟨u,v,hu,hv,huv⟩:∃u v:Nat,((n:Int) - 1 - tK d).toNat=u∧(-((n:Int) - 1 - tK d)).toNat=v∧(u:Int) - v=n - (Fx.X d).length - Fx.P d:=⟨_,_,rfl,rfl,by unfold tK;omega⟩
 rw [hu,hv]
 have hB:(0:Int)<10^v*2^(-(Ie.de d)).toNat:=Int.mul_pos (Int.pow_pos (by omega)) (Int.pow_pos (by omega))
 have pa:(0:Int)<10^a:=Int.pow_pos (by omega)
 refine nr_one hB (nr_nearI hB) ?_
 rcases Nat.lt_or_ge n (Fx.X d).length with c | c
 ·rw [Fx.kp_cut c,Fx.rd_dv hx (by omega)]
  obtain ⟨n1,n2,n3⟩:=Fx.rn_near hx n
  refine Fx.nr_of (N:=dv (Fx.X d)) (T:=10^((Fx.X d).length - n)) (Int.pow_pos (by omega)) hB ?_ n1 n2 n3
  have ex:1074+v=u+((Fx.X d).length - n)+a:=by omega
  have e10:(10:Int)^1074*10^v=10^u*10^((Fx.X d).length - n)*10^a:=by rw [←Int.pow_add,←Int.pow_add,←Int.pow_add,ex]
  refine Int.eq_of_mul_eq_mul_right (a:=10^a) (by omega) ?_
  generalize (10:Int)^1074=z at *
  generalize (10:Int)^v=pv at *
  generalize (10:Int)^u=pu at *
  generalize (10:Int)^((Fx.X d).length - n)=pr at *
  generalize (10:Int)^a=pa' at *
  generalize (2:Int)^(-(Ie.de d)).toNat=t1 at *
  generalize (2:Int)^(Ie.de d).toNat=t2 at *
  rw [show dv (Fx.X d)*(pv*t1)*pa'=dv (Fx.X d)*pa'*t1*pv by ac_rfl,q,show Ie.dm d*t2*z*pv=Ie.dm d*t2*(z*pv) by ac_rfl,e10]
  ac_rfl
 ·rw [Fx.kp_full c,dv_append,dv_zeros,List.length_replicate,Int.add_zero]
  apply Fx.nr_exact _ hB
  have ex:1074+(n - (Fx.X d).length)+v=u+a:=by omega
  have e10:(10:Int)^1074*10^(n - (Fx.X d).length)*10^v=10^u*10^a:=by rw [←Int.pow_add,←Int.pow_add,←Int.pow_add,ex]
  refine Int.eq_of_mul_eq_mul_right (a:=10^a) (by omega) ?_
  generalize (10:Int)^1074=z at *
  generalize (10:Int)^v=pv at *
  generalize (10:Int)^u=pu at *
  generalize (10:Int)^(n - (Fx.X d).length)=pr at *
  generalize (10:Int)^a=pa' at *
  generalize (2:Int)^(-(Ie.de d)).toNat=t1 at *
  generalize (2:Int)^(Ie.de d).toNat=t2 at *
  rw [show dv (Fx.X d)*pr*(pv*t1)*pa'=dv (Fx.X d)*pa'*t1*(pr*pv) by ac_rfl,q,show Ie.dm d*t2*z*(pr*pv)=Ie.dm d*t2*(z*pr*pv) by ac_rfl,e10]
  ac_rfl
theorem rdt_G {d:Int} {n:Nat} {xs:List Int} (hf:Ie.fnt d=true) (hm:0<Ie.dm d) (h1:1≤n) (h:RdT (dv (Fx.kp (Fx.X d) n)) xs):xs=Fx.kp (Fx.X d) n:=by
 have nm:=(Fx.X_ex hf).nml hm
 have hx:=nm.digs
 have kd:Digs (Fx.kp (Fx.X d) n)∧(Fx.kp (Fx.X d) n).getD 0 0≠48∧Fx.kp (Fx.X d) n≠[]:=by
  rcases Nat.lt_or_ge n (Fx.X d).length with c | c
  ·rw [Fx.kp_cut c]
   refine ⟨Fx.rd_digs _ _,Fx.rd_head nm h1 (by omega),fun q=>?_⟩
   have:=congrArg List.length q
   rw [Fx.rd_len,List.length_nil] at this
   split at this <;> omega
  ·rw [Fx.kp_full c]
   have l1:=List.length_pos_iff.2 nm.ne
   refine ⟨fun x q=>?_,?_,fun q=>nm.ne (List.append_eq_nil_iff.1 q).1⟩
   ·rcases List.mem_append.1 q with q | q
    ·exact hx x q
    ·have:=List.eq_of_mem_replicate q;omega
   ·have:=nm.head
    rw [List.getD_eq_getElem?_getD,List.getElem?_append_left l1]
    rw [List.getD_eq_getElem?_getD] at this
    exact this
 obtain ⟨kd1,kd2,kd3⟩:=kd
 obtain ⟨m,hmm⟩:∃m,(Fx.kp (Fx.X d) n).length=m+1:=⟨(Fx.kp (Fx.X d) n).length - 1,by have:=List.length_pos_iff.2 kd3;omega⟩
 have lo:=Fx.head_low kd1 hmm kd2
 have pp:=Fx.p_pos m
 exact dv_ext h.digs kd1 (Fx.len_eq h.digs kd1 h.ne kd3 (h.head (by omega)) kd2 h.val) h.val
theorem atl_K {d:Int} (hf:Ie.fnt d=true) (hm:0<Ie.dm d) (k:Int):atl (Ie.dm d) (Ie.de d) k=decide (k≤tK d):=by
 obtain ⟨m0,m1,e0,e1,_⟩:=Ie.fdec d (of_decide_eq_true hf)
 have nm:=(Fx.X_ex hf).nml hm
 have q:=Fx.ex_pow hm e0 (Fx.X_ex hf)
 obtain ⟨a,ha⟩:∃a:Nat,Fx.P d+1074=(a:Int):=⟨(Fx.P d+1074).toNat,by have:=(Fx.X_room hf).2.2.1;omega⟩
 rw [show (Fx.P d+1074).toNat=a by omega] at q
 obtain ⟨l,hl⟩:=nm.len
 have lo:=Fx.head_low nm.digs hl nm.head
 have hi:=(dv_bd nm.digs).2
 rw [hl] at hi
 have p1:(0:Int)<2^(-(Ie.de d)).toNat:=Int.pow_pos (by omega)
 have pz:(0:Int)<10^1074:=Fx.p_pos 1074
 have key:∀{c:Int},(10^k.toNat*2^(-(Ie.de d)).toNat≤Ie.dm d*10^(-k).toNat*2^(Ie.de d).toNat)↔(10^k.toNat*10^1074≤dv (Fx.X d)*10^a*10^(-k).toNat):=by
  intro _
  have e1:Ie.dm d*10^(-k).toNat*2^(Ie.de d).toNat*10^1074=dv (Fx.X d)*10^a*10^(-k).toNat*2^(-(Ie.de d)).toNat:=by
   generalize (10:Int)^1074=z at *
   rw [show Ie.dm d*10^(-k).toNat*2^(Ie.de d).toNat*z=Ie.dm d*2^(Ie.de d).toNat*z*10^(-k).toNat by ac_rfl,←q]
   ac_rfl
  generalize (10:Int)^1074=z at *
  generalize dv (Fx.X d)*10^a*10^(-k).toNat=R at *
  generalize Ie.dm d*10^(-k).toNat*2^(Ie.de d).toNat=S at *
  generalize (2:Int)^(-(Ie.de d)).toNat=t at *
  generalize (10:Int)^k.toNat=K at *
  constructor
  ·intro c
   have:=Int.mul_le_mul_of_nonneg_right c (Int.le_of_lt pz)
   rw [e1,Int.mul_right_comm] at this
   exact Int.le_of_mul_le_mul_right this p1
  ·intro c
   have:=Int.mul_le_mul_of_nonneg_right c (Int.le_of_lt p1)
   rw [←e1,Int.mul_right_comm] at this
   exact Int.le_of_mul_le_mul_right this pz
 unfold atl
 congr 1
 apply propext
 rw [key (c:=0)]
 unfold tK
 have pk:=Fx.p_pos (a+(-k).toNat)
 constructor
 ·intro c
  rcases (show k≤(Fx.X d).length - 1+Fx.P d∨(Fx.X d).length+Fx.P d≤k by omega) with g | g
  ·exact g
  ·exfalso
   have h2:dv (Fx.X d)*10^(a+(-k).toNat)<10^(l+1)*10^(a+(-k).toNat):=Int.mul_lt_mul_of_pos_right hi pk
   rw [←Int.pow_add] at h2
   have h3:=Fx.p_le (a:=l+1+(a+(-k).toNat)) (b:=k.toNat+1074) (by omega)
   rw [Int.pow_add 10 a,←Int.mul_assoc] at h2
   rw [Int.pow_add 10 k.toNat] at h3
   omega
 ·intro c
  have h2:10^l*10^(a+(-k).toNat)≤dv (Fx.X d)*10^(a+(-k).toNat):=Int.mul_le_mul_of_nonneg_right lo (Int.le_of_lt pk)
  rw [←Int.pow_add] at h2
  have h3:=Fx.p_le (a:=k.toNat+1074) (b:=l+(a+(-k).toNat)) (by omega)
  rw [Int.pow_add 10 a,←Int.mul_assoc] at h2
  rw [Int.pow_add 10 k.toNat] at h3
  omega
end Po
end Go.Proofs.YtbdhlfklcdegdaaGreatDoor

namespace Go.Proofs.YtbdhlfklcdegdaaGreatDoor
open Go Go.RowKit Go.Deep Go.Shelf
set_option maxRecDepth 100000 in
set_option maxHeartbeats 4000000 in
theorem xfixed_any (d:Int) (n:Nat) (w:World) (h0:0≤d) (h1:d<18446744073709551616) (hf:Ie.fnt d=true) (hn:n≤4200):
  Calls Tryz.prog 201 #[.int .u64 d,.int .i64 (n:Int)] w fun e w'=>e=.returned (.tuple #[.string (strOfNums (Fx.pA d n)),.string (strOfNums (Fx.pB d n))])∧Below w.heap.size w w':=by
 have RD:=hid (xrounded_any d n w h0 h1 hf (by omega) (by omega))
 unfold RdTold at RD
 rw [Po.rnd_W hf n] at RD
 have r:Fx.rf d n 0=0:=Fx.rf_zero.2 ⟨hf,by omega,by omega⟩
 have wl:=Fx.W_len d n
 have wd:=Fx.W_digs hf n
 have wr:=Fx.dv_W_room hf (n:=n) hn
 have eA:Fx.pA d n=(Fx.W d n).take ((Fx.W d n).length - n):=by rw [Fx.pA,if_pos r,Int.toNat_natCast]
 have eB:Fx.pB d n=(Fx.W d n).drop ((Fx.W d n).length - n):=by rw [Fx.pB,if_pos r,Int.toNat_natCast]
 have X1:=ext_head (Po.digs_by wd) ((Fx.W d n).length - n)
 have X2:=ext_tail (Po.digs_by wd) ((Fx.W d n).length - n)
 rw [←eA] at X1
 rw [←eB] at X2
 have sz:(strOfNums (Fx.W d n)).size=(Fx.W d n).length:=strOfNums_size _
 have ZR:=hid (fun k W' (hk:k≤100000) (hk0:-9223372036854775808≤k)=>xzeros_any k W' hk hk0)
 have G:Hid (∀xs,Po.RdT (dv (Fx.W d n)) xs→strOfNums (Wh.rep 48 ((n:Int)+1 - (xs.length:Int)))++strOfNums xs=strOfNums (Fx.W d n)∧(n<xs.length→strOfNums xs=strOfNums (Fx.W d n))∧xs.length≤(Fx.W d n).length):=by
  intro xs h
  have e:=Po.rdt_W hf h
  have hl:xs.length≤(Fx.W d n).length:=by rw [←e,List.length_append];omega
  refine ⟨?_,fun c=>?_,hl⟩
  ·rw [xapp (Wh.By.rep (by omega)) (Po.digs_by h.digs),←e]
   unfold Wh.rep
   rw [show ((n:Int)+1 - (xs.length:Int)).toNat=n+1 - xs.length by omega]
  ·rw [show n+1 - xs.length=0 by omega] at e
   rw [←e];rfl
 obtain ⟨L,hL⟩:∃L,(Fx.W d n).length=L:=⟨_,rfl⟩
 obtain ⟨k,hk⟩:∃k,L - n=k:=⟨_,rfl⟩
 rw [hL,hk] at X1 X2
 rw [hL] at sz wl wr
 have sL:Hid (∀xs,Po.RdT (dv (Fx.W d n)) xs→xs.length≤L):=fun xs h=>by have:=(G.out xs h).2.2;omega
 have B0:Hid (∀w' k,Below w.heap.size w w'→Below w.heap.size w (w'.drewN k)):=fun w' k h=>below_drewN h k
 have hLn:(L:Int) - (n:Int)=(k:Int):=by omega
 have hkL:(k:Int)≤(L:Int):=by omega
 have hLb:(L:Int)≤6000:=by omega
 have hni:(n:Int)≤4200:=by omega
 have hkk:k≤L:=by omega
 clear hL hk eA eB wd r hf h0 h1 wr wl
 generalize strOfNums (Fx.pA d n)=ra at *
 generalize strOfNums (Fx.pB d n)=rb at *
 generalize strOfNums (Fx.W d n)=ws at *
 go_enter Tryz.func201,Tryz.ntmps201
 go_wp2_with fail
 with_reducible refine RD.out.mono ?_
 rintro e w1 ⟨xs,rfl,hx,b1⟩
 obtain ⟨g1,g2,g3⟩:=G.out xs hx
 have xl:=sL.out xs hx
 have xz:(strOfNums xs).size=xs.length:=strOfNums_size xs
 have B1:=hid b1
 clear b1 RD G sL hx
 by_cases c:xs.length≤n
 ·have ci:(xs.length:Int)≤(n:Int):=by omega
  have Z:=hid (ZR.out ((n:Int)+1 - (xs.length:Int)) w1 (by omega) (by omega))
  have z1:((strOfNums (Wh.rep 48 ((n:Int)+1 - (xs.length:Int)))).size:Int)≤6000:=by rw [strOfNums_size,Wh.rep_len];omega
  clear g2 g3 ZR c
  have xb:(xs.length:Int)≤6000:=by omega
  generalize strOfNums (Wh.rep 48 ((n:Int)+1 - (xs.length:Int)))=zs at *
  generalize xs.length=T at *
  generalize strOfNums xs=ss at *
  go_wp2_with fail
  with_reducible refine Z.out.mono ?_
  rintro e w2 ⟨rfl,b2⟩
  have B2:=hid (below_on B1.out b2)
  clear b2 B1 Z
  go_upto_region 4 with fail
  go_quiet (fail)
  go_wp2_with fail
  go_ret2
  exact ⟨rfl,B0.out _ _ B2.out⟩
 ·have ci:¬(xs.length:Int)≤(n:Int):=by omega
  have e:=g2 (by omega)
  clear g1 g2 g3 ZR c
  have xb:(xs.length:Int)≤6000:=by omega
  have xsz:ws.size=xs.length:=by rw [←e];exact xz
  have tL:xs.length=L:=by omega
  rw [e]
  rw [tL] at ci xb
  clear e xz xsz xl tL
  go_upto_region 4 with fail
  go_quiet (fail)
  go_wp2_with fail
  go_ret2
  exact ⟨rfl,B0.out _ _ B1.out⟩
set_option maxRecDepth 100000 in
set_option maxHeartbeats 4000000 in
theorem xfigures_any (d:Int) (p:Nat) (w:World) (h0:0≤d) (h1:d<18446744073709551616) (hf:Ie.fnt d=true) (hp:p≤4100):
  Calls Tryz.prog 203 #[.int .u64 d,.int .i64 (p:Int)] w fun e w'=>e=.returned (.tuple #[.string (strOfNums (Fx.gS d ((p:Int)+1))),.int .i64 (Fx.gK d ((p:Int)+1))])∧Below w.heap.size w w':=by
 obtain ⟨m0,m1,e0,e1,_⟩:=Ie.fdec d (of_decide_eq_true hf)
 have D:=hid (zdecode_any d w h0 h1)
 have hpi:(p:Int)≤4100:=by omega
 rcases (show Ie.dm d=0∨0<Ie.dm d by omega) with hm | hm
 ·obtain ⟨f1,f2⟩:=Fx.fig_zero hf hm (k:=p+1) (by omega) (by omega)
  rw [show ((p+1:Nat):Int)=(p:Int)+1 by omega] at f1 f2
  rw [f1,f2]
  have ZR:=hid (fun W'=>xzeros_any ((p:Int)+1) W' (by omega) (by omega))
  rw [show Wh.rep 48 ((p:Int)+1)=List.replicate (p+1) 48 by unfold Wh.rep;congr 1] at ZR
  rw [hm] at D
  simp only [partsOf] at D
  generalize decide (9223372036854775808≤d)=neg at *
  clear m0 m1 e0 e1 hf hm f1 f2
  generalize Ie.cls d=cc at *
  generalize Ie.de d=x at *
  generalize strOfNums (List.replicate (p+1) 48)=R at *
  go_enter Tryz.func203,Tryz.ntmps203
  go_wp2_with fail
  with_reducible refine D.out.mono ?_
  rintro e w1 ⟨rfl,b1⟩
  have B1:=hid b1
  clear b1 D
  go_wp2_with fail
  with_reducible refine (ZR.out _).mono ?_
  rintro e w2 ⟨rfl,b2⟩
  have B2:=hid (below_on (Below.alloc B1.out B1.out.size _) b2)
  clear b2 B1 ZR
  go_wp2_with fail
  go_ret2
  exact ⟨rfl,B2.out⟩
 ·have r:Fx.rf d ((p:Int)+1) 1=0:=Fx.rf_zero.2 ⟨hf,by omega,by omega⟩
  obtain ⟨x1,x2,x3,x4,x5⟩:=Fx.X_room hf
  have tk:Po.tK d=(Fx.X d).length - 1+Fx.P d:=rfl
  have k0:-400≤Po.tK d:=by omega
  have k1:Po.tK d≤400:=by omega
  have TN:=hid (fun W'=>xtens_any (Ie.dm d) (Ie.de d) (Po.tK d) W' hm (by omega) (by omega) (by omega) (fun k _ _=>Po.atl_K hf hm k) k0 k1)
  have RD:=hid (fun W'=>xrounded_any d ((p:Int) - Po.tK d) W' h0 h1 hf (by omega) (by omega))
  unfold RdTold at RD
  rw [show (p:Int) - Po.tK d=((p+1:Nat):Int) - 1 - Po.tK d by omega,Po.rnd_G hf hm (n:=p+1),show ((p+1:Nat):Int) - 1 - Po.tK d=(p:Int) - Po.tK d by omega] at RD
  have G:Hid (∀xs,Po.RdT (dv (Fx.kp (Fx.X d) ((p+1:Nat):Int))) xs→xs=Fx.kp (Fx.X d) ((p+1:Nat):Int)):=fun xs h=>Po.rdt_G hf hm (by omega) h
  have eS:Fx.gS d ((p:Int)+1)=(Fx.kp (Fx.X d) ((p+1:Nat):Int)).take (p+1):=by
   rw [Fx.gS,if_pos r]
   congr 1
  have eK:Fx.gK d ((p:Int)+1)=Po.tK d+(if (p:Int)+1<(Fx.kp (Fx.X d) ((p+1:Nat):Int)).length then 1 else 0):=by
   rw [Fx.gK,if_pos r]
   rfl
  have kl:(Fx.kp (Fx.X d) ((p+1:Nat):Int)).length≤6001:=Fx.kp_len_le (m:=6000) (by omega) (by omega)
  have kd:Digs (Fx.kp (Fx.X d) ((p+1:Nat):Int))∧p+1≤(Fx.kp (Fx.X d) ((p+1:Nat):Int)).length:=by
   have fl:=(Po.fgF hf (n:=(p:Int)+1) (by omega) (by omega)).len
   rw [eS,List.length_take] at fl
   refine ⟨?_,by omega⟩
   rcases Nat.lt_or_ge (p+1) (Fx.X d).length with c | c
   ·rw [Fx.kp_cut c];exact Fx.rd_digs _ _
   ·rw [Fx.kp_full c]
    intro y q
    rcases List.mem_append.1 q with q | q
    ·exact (Fx.X_digs hf).1 y q
    ·have:=List.eq_of_mem_replicate q;omega
  obtain ⟨kd1,kd2⟩:=kd
  have X1:=ext_head (Po.digs_by kd1) (p+1)
  rw [←eS] at X1
  have ET:Hid ((Fx.kp (Fx.X d) ((p+1:Nat):Int)).length=p+1→strOfNums (Fx.kp (Fx.X d) ((p+1:Nat):Int))=strOfNums (Fx.gS d ((p:Int)+1))):=fun c=>by rw [eS,List.take_of_length_le (by omega)]
  have sz:(strOfNums (Fx.kp (Fx.X d) ((p+1:Nat):Int))).size=(Fx.kp (Fx.X d) ((p+1:Nat):Int)).length:=strOfNums_size _
  have mne:(Ie.dm d == 0)=false:=by rw [beq_eq_false_iff_ne];omega
  have E1:Hid ((p:Int)+1<(Fx.kp (Fx.X d) ((p+1:Nat):Int)).length→Fx.gK d ((p:Int)+1)=Po.tK d+1):=fun c=>by rw [eK,if_pos c]
  have E2:Hid ((Fx.kp (Fx.X d) ((p+1:Nat):Int)).length=p+1→Fx.gK d ((p:Int)+1)=Po.tK d):=fun c=>by rw [eK,if_neg (by omega),Int.add_zero]
  generalize Fx.gK d ((p:Int)+1)=Q at *
  generalize Fx.kp (Fx.X d) ((p+1:Nat):Int)=ks at *
  generalize strOfNums (Fx.gS d ((p:Int)+1))=R at *
  clear eS eK tk x1 x2 x3 x4 x5 r kd1 hf e0 e1 m0 m1 hm h0 h1
  simp only [partsOf] at D
  generalize decide (9223372036854775808≤d)=neg at *
  generalize Ie.cls d=cc at *
  generalize Ie.dm d=m at *
  generalize Ie.de d=x at *
  generalize Po.tK d=K at *
  generalize hT:ks.length=T at *
  have hTb:(T:Int)≤6001:=by omega
  go_enter Tryz.func203,Tryz.ntmps203
  go_wp2_with fail
  with_reducible refine D.out.mono ?_
  rintro e w1 ⟨rfl,b1⟩
  have B1:=hid b1
  clear b1 D
  go_wp2_with fail
  with_reducible refine (TN.out _).mono ?_
  rintro e w2 ⟨rfl,b2⟩
  have B2:=hid (below_on (Below.alloc B1.out B1.out.size _) b2)
  clear b2 B1 TN
  go_wp2_with fail
  with_reducible refine (RD.out _).mono ?_
  rintro e w3 ⟨xs,rfl,hx,b3⟩
  have hxs:=G.out xs hx
  subst hxs
  have B3:=hid (below_on B2.out b3)
  clear b3 B2 RD G hx
  by_cases c:p+1<T
  ·have ci:(p:Int)+1<(T:Int):=by omega
   have cj:((p+1:Nat):Int)=(p:Int)+1:=by omega
   have EQ:=hid (E1.out ci)
   clear ET hT E1 E2
   generalize strOfNums xs=ss at *
   go_wp2_with fail
   go_ret2
   exact ⟨by rw [EQ.out];rfl,B3.out⟩
  ·have ci:¬(p:Int)+1<(T:Int):=by omega
   have e:=ET.out (by omega)
   have sR:R.size=T:=by rw [←e];exact sz
   have EQ:=hid (E2.out (by omega))
   rw [e]
   clear ET hT sz X1 e E1 E2
   go_wp2_with fail
   go_ret2
   exact ⟨by rw [EQ.out];rfl,B3.out⟩
end Go.Proofs.YtbdhlfklcdegdaaGreatDoor
