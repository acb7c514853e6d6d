/-
  Texts put together: JSpec, JMem, FRep, ZRef1A, SRef1.
-/
import Derived.Test.YtbdhlfklcdegdaaGreatDoorWAH
import Derived.Test.YtbdhlfklcdegdaaGreatDoorWAM
import Derived.Deep.LoopGhost
import Derived.Deep.RegionHeld3
import Derived.Deep.CutBlock
import Derived.OwnWalk
import Derived.Deep.CutRange
namespace Go.Proofs.YtbdhlfklcdegdaaGreatDoor
open Go Go.RowKit Go.Deep Go.Shelf
theorem str_is {s:ByteArray} {xs:List Int} (h:Str s xs):s=strOfNums xs:=h.inj (Str.of_nums (fun _ hx=>h.mem hx))
theorem bit_and (F k:Int) (h0:0≤F) (h1:F≤31) (hk:k=1∨k=2∨k=4∨k=8∨k=16):(bits .and .i64 F k=0∧Wh.bit F k=false)∨(bits .and .i64 F k≠0∧Wh.bit F k=true):=by
 have key:∀t:Fin 32,∀j∈[(1:Int),2,4,8,16],(bits .and .i64 (t.val:Int) j=0∧Wh.bit (t.val:Int) j=false)∨(bits .and .i64 (t.val:Int) j≠0∧Wh.bit (t.val:Int) j=true):=by decide
 have:=key ⟨F.toNat,by omega⟩ k (by simp;omega)
 simp only at this
 rw [show ((F.toNat:Nat):Int)=F by omega] at this
 exact this
set_option maxRecDepth 100000 in
theorem has_any (V F W P k:Int) (w:World) (h0:0≤F) (h1:F≤31) (hk:k=1∨k=2∨k=4∨k=8∨k=16):
  Calls Tryz.prog 110 #[.agg #[.int .u8 V,.int .i64 F,.int .i64 W,.int .i64 P],.int .i64 k] w fun e w'=>e=.returned (.bool (Wh.bit F k))∧Below w.heap.size w w':=by
 have B:=hid (alloc_b w (.cells #[.int .u8 V,.int .i64 F,.int .i64 W,.int .i64 P] 58))
 rcases bit_and F k h0 h1 hk with ⟨e,q⟩ | ⟨e,q⟩
 ·rw [q]
  clear h0 h1 hk q
  go_enter Tryz.func110,Tryz.ntmps110
  go_wp2_with fail
  go_ret
  exact ⟨rfl,B.out⟩
 ·rw [q]
  have e2:(bits .and .i64 F k != 0)=true:=by simpa using e
  clear h0 h1 hk q e
  go_enter Tryz.func110,Tryz.ntmps110
  go_wp2_with fail
  go_ret
  exact ⟨rfl,B.out⟩
set_option maxRecDepth 100000 in
theorem check_any (V F W P:Int) (w:World):
  Calls Tryz.prog 109 #[.agg #[.int .u8 V,.int .i64 F,.int .i64 W,.int .i64 P]] w fun e w'=>e=.returned (.int .i64 (Wh.chk F W P))∧Below w.heap.size w w':=by
 have B:=hid (alloc_b w (.cells #[.int .u8 V,.int .i64 F,.int .i64 W,.int .i64 P] 58))
 by_cases h:F<0∨31<F∨W<0∨P < -1
 ·rw [show Wh.chk F W P=1 from if_pos h]
  by_cases h1:F<0
  ·clear h
   go_enter Tryz.func109,Tryz.ntmps109
   go_wp2_with fail
   go_ret
   exact ⟨rfl,B.out⟩
  ·by_cases h2:31<F
   ·clear h
    go_enter Tryz.func109,Tryz.ntmps109
    go_wp2_with fail
    go_ret
    exact ⟨rfl,B.out⟩
   ·by_cases h3:W<0
    ·clear h
     go_enter Tryz.func109,Tryz.ntmps109
     go_wp2_with fail
     go_ret
     exact ⟨rfl,B.out⟩
    ·have h4:P < -1:=by omega
     clear h
     go_enter Tryz.func109,Tryz.ntmps109
     go_wp2_with fail
     go_ret
     exact ⟨rfl,B.out⟩
 ·have h1:¬F<0:=by omega
  have h2:¬31<F:=by omega
  have h3:¬W<0:=by omega
  have h4:¬P < -1:=by omega
  by_cases k:4096<W∨4096<P
  ·rw [show Wh.chk F W P=6 by rw [Wh.chk,if_neg h,if_pos k]]
   by_cases k1:4096<W
   ·clear h k
    go_enter Tryz.func109,Tryz.ntmps109
    go_wp2_with fail
    go_ret
    exact ⟨rfl,B.out⟩
   ·have k2:4096<P:=by omega
    clear h k
    go_enter Tryz.func109,Tryz.ntmps109
    go_wp2_with fail
    go_ret
    exact ⟨rfl,B.out⟩
  ·rw [show Wh.chk F W P=0 by rw [Wh.chk,if_neg h,if_neg k]]
   have k1:¬4096<W:=by omega
   have k2:¬4096<P:=by omega
   clear h k
   go_enter Tryz.func109,Tryz.ntmps109
   go_wp2_with fail
   go_ret
   exact ⟨rfl,B.out⟩
set_option maxRecDepth 100000 in
theorem checkVerb_any (V F W P:Int) (s:ByteArray) (ok:Bool) (w:World) (hv:(Lib.indexByte s.data.toList V.toNat.toUInt8<0∧ok=false)∨(0≤Lib.indexByte s.data.toList V.toNat.toUInt8∧ok=true)):
  Calls Tryz.prog 213 #[.agg #[.int .u8 V,.int .i64 F,.int .i64 W,.int .i64 P],.string s] w fun e w'=>e=.returned (.int .i64 (if ok=true then Wh.chk F W P else 140))∧Below w.heap.size w w':=by
 have B:=hid (alloc_b w (.cells #[.int .u8 V,.int .i64 F,.int .i64 W,.int .i64 P] 58))
 have IX:=hid (fun w=>Any.strings_IndexByte idxLays s V w)
 generalize Lib.indexByte s.data.toList V.toNat.toUInt8=x at *
 rcases hv with ⟨h,rfl⟩ | ⟨h,rfl⟩
 ·rw [if_neg Bool.false_ne_true]
  go_enter Tryz.func213,Tryz.ntmps213
  go_wp2_with (go_at_call 69;refine (IX.out _).mono ?_;rintro e w2 ⟨rfl,rfl⟩)
  go_ret
  exact ⟨rfl,B.out⟩
 ·rw [if_pos rfl]
  have h':¬x<0:=by omega
  have CK:=hid (fun w=>check_any V F W P w)
  generalize Wh.chk F W P=E at *
  go_enter Tryz.func213,Tryz.ntmps213
  go_wp2_with (go_at_call 69;refine (IX.out _).mono ?_;rintro e w2 ⟨rfl,rfl⟩)
  refine (CK.out _).mono ?_
  rintro e w1 ⟨rfl,b1⟩
  have B1:=hid (below_on B.out b1)
  clear b1
  go_wp2_with fail
  go_ret
  exact ⟨rfl,B1.out⟩
set_option maxRecDepth 100000 in
theorem vb_di (V:Int) (h0:0≤V) (h1:V<256):(Lib.indexByte (⟨#[100,105]⟩:ByteArray).data.toList V.toNat.toUInt8<0∧decide (V=100∨V=105)=false)∨(0≤Lib.indexByte (⟨#[100,105]⟩:ByteArray).data.toList V.toNat.toUInt8∧decide (V=100∨V=105)=true):=by
 have key:∀t:Fin 256,(Lib.indexByte [100,105] (t.val:Int).toNat.toUInt8<0∧decide ((t.val:Int)=100∨(t.val:Int)=105)=false)∨(0≤Lib.indexByte [100,105] (t.val:Int).toNat.toUInt8∧decide ((t.val:Int)=100∨(t.val:Int)=105)=true):=by decide
 have:=key ⟨V.toNat,by omega⟩
 simp only at this
 rw [show ((V.toNat:Nat):Int)=V by omega] at this
 exact this
end Go.Proofs.YtbdhlfklcdegdaaGreatDoor

namespace Go.Proofs.YtbdhlfklcdegdaaGreatDoor
open Go Go.RowKit Go.Deep Go.Shelf
theorem ret_str {a b:ByteArray} (h:a=b):Ending.returned (.string a)=.returned (.string b):=by rw [h]
theorem str_cells {s:ByteArray} {xs:List Int} (h:Str s xs):Lib.strCells s=xs.map (Value.int .u8):=by
 rw [←h,List.map_map];rfl
def IsB (B b:Nat) (zs:List Int) (w:World):Prop:=Lib.IsBuilder 148 5 B b (zs.map (Value.int .u8)) w
theorem IsB.below {B b:Nat} {zs:List Int} {w w':World} (h:IsB B b zs w) (k:Below w.heap.size w w'):IsB B b zs w':=by
 have key:∀p,Lib.BuilderAt 148 5 B b p (zs.map (Value.int .u8)) w→Lib.BuilderAt 148 5 B b p (zs.map (Value.int .u8)) w':=by
  rintro p ⟨h1,v,h2,h3,h4⟩
  have hl:b<w.heap.size:=by
   rcases Nat.lt_or_ge b w.heap.size with c | c
   ·exact c
   ·simp [Array.getElem?_eq_none c] at h2
  exact ⟨h1,v,by rw [k.block b hl];exact h2,World.ownsRow.kept (row:=none) h3 ⟨k.os,k.tape,k.output,k.size,fun j hj _=>k.block j hj⟩ (by cases h:Value.ownBlock v <;> simp),h4⟩
 rcases h with h | h
 ·exact .inl (key _ h)
 ·exact .inr (key _ h)
theorem bwrite_any (B b:Nat) (zs xs:List Int) (s:ByteArray) (w:World) (h:IsB B b zs w) (hs:Str s xs) (hl:zs.length+xs.length≤140737488355328) (hB:B≤w.heap.size):Calls Tryz.prog 105 #[.pointer (some ⟨b,0,none⟩),.string s] w fun e w'=>e=.returned (.tuple #[.int .i64 s.size,.nilIface])∧IsB B b (zs++xs) w'∧Below B w w':=by
 have q:=Any.Builder_WriteString jwsLays jExtra B b (zs.map (Value.int .u8)) s w h (by have:=hs.size;rw [List.length_map];omega) hB
 rw [str_cells hs,←List.map_append] at q
 refine q.mono ?_
 rintro e w' ⟨rfl,h1,h2⟩
 exact ⟨rfl,.inr h1,h2⟩
theorem bstr_any (B b:Nat) (zs:List Int) (w:World) (h:IsB B b zs w) (hz:∀x∈zs,0≤x∧x<256) (hB:B≤w.heap.size):Calls Tryz.prog 106 #[.pointer (some ⟨b,0,none⟩)] w fun e w'=>e=.returned (.string (strOfNums zs))∧Below B w w':=by
 have S:=Str.of_nums hz
 have e1:zs.map (Value.int .u8)=Lib.byteCells (strOfNums zs).data.toList:=by rw [←str_cells S];rfl
 have h':Lib.IsBuilder 148 5 B b (Lib.byteCells (strOfNums zs).data.toList) w:=by rw [←e1];exact h
 have q:=Any.Builder_String_any { repLays with } jExtra B b (strOfNums zs).data.toList w h' hB
 have e2:(⟨(strOfNums zs).data.toList.toArray⟩:ByteArray)=strOfNums zs:=by simp
 rw [e2] at q
 exact q
theorem bgrow_any (B b n:Nat) (w:World) (hB:B≤b) (hbk:w.heap[b]?=some (.cells #[.pointer none,.slice none 0 0] 148 (0,0))) (hBw:B≤w.heap.size) (hn:n≤281474976710656):Calls Tryz.prog 111 #[.pointer (some ⟨b,0,none⟩),.int .i64 n] w fun e w'=>e=.returned (.tuple #[])∧IsB B b [] w'∧Below B w w':=by
 refine (Any.Builder_Grow_fresh { repLays with } jExtra B b n w hB hbk hBw hn).mono ?_
 rintro e w' ⟨rfl,h1,h2⟩
 exact ⟨rfl,.inr h1,h2⟩
theorem rep_str (c:UInt8) (k:Nat):Str ⟨(Lib.repeatL (#[c]:Array UInt8).toList k).toArray⟩ (List.replicate k (c.toNat:Int)):=by
 unfold Str
 simp only
 induction k with
 | zero=>rfl
 | succ k ih=>
  rw [Lib.repeatL,List.replicate_succ]
  simpa using ih
theorem jrep (c:UInt8) (n:Nat) (w:World) (hn:n≤100000):Calls Tryz.prog 112 #[.string ⟨#[c]⟩,.int .i64 (n:Int)] w fun e w'=>e=.returned (.string (strOfNums (Wh.rep (c.toNat:Int) (n:Int))))∧Below w.heap.size w w':=by
 refine (Any.strings_Repeat repLays jExtra ⟨#[c]⟩ n w (by omega) (by have:(⟨#[c]⟩:ByteArray).size=1:=rfl;rw [this];omega)).mono ?_
 rintro e w' ⟨rfl,hB⟩
 refine ⟨?_,hB⟩
 rw [Wh.rep,Int.toNat_natCast,←str_is (rep_str c n)]
theorem jrep32 (n:Nat) (w:World) (hn:n≤100000):Calls Tryz.prog 112 #[.string ⟨#[32]⟩,.int .i64 (n:Int)] w fun e w'=>e=.returned (.string (strOfNums (Wh.rep 32 (n:Int))))∧Below w.heap.size w w':=jrep 32 n w hn
theorem jrep48 (n:Nat) (w:World) (hn:n≤100000):Calls Tryz.prog 112 #[.string ⟨#[48]⟩,.int .i64 (n:Int)] w fun e w'=>e=.returned (.string (strOfNums (Wh.rep 48 (n:Int))))∧Below w.heap.size w w':=jrep 48 n w hn
structure PS (w0:World) (bb:Nat) (zs:List Int) (wk:World):Prop where
 bel:Below w0.heap.size w0 wk
 isb:IsB bb bb zs wk
 sz:bb≤wk.heap.size
 lo:w0.heap.size≤bb
theorem PS.on {w0 wk w':World} {bb:Nat} {zs:List Int} (h:PS w0 bb zs wk) (k:Below wk.heap.size wk w'):PS w0 bb zs w':=
 ⟨below_on h.bel k,h.isb.below k,Nat.le_trans h.sz k.size,h.lo⟩
theorem PS.write {w0 wk:World} {bb:Nat} {zs:List Int} (h:PS w0 bb zs wk) (xs:List Int) (hx:Wh.By xs) (hl:zs.length+xs.length≤140737488355328):
  Calls Tryz.prog 105 #[.pointer (some ⟨bb,0,none⟩),.string (strOfNums xs)] wk fun e w'=>e=.returned (.tuple #[.int .i64 (strOfNums xs).size,.nilIface])∧PS w0 bb (zs++xs) w':=by
 refine (bwrite_any bb bb zs xs _ wk h.isb (Str.of_nums hx) hl h.sz).mono ?_
 rintro e w' ⟨rfl,i,b⟩
 exact ⟨rfl,h.bel.trans (b.mono h.lo),i,Nat.le_trans h.sz b.size,h.lo⟩
theorem PS.str {w0 wk:World} {bb:Nat} {zs:List Int} (h:PS w0 bb zs wk) (hz:Wh.By zs):
  Calls Tryz.prog 106 #[.pointer (some ⟨bb,0,none⟩)] wk fun e w'=>e=.returned (.string (strOfNums zs))∧Below w0.heap.size w0 w':=by
 refine (bstr_any bb bb zs wk h.isb hz h.sz).mono ?_
 rintro e w' ⟨rfl,b⟩
 exact ⟨rfl,h.bel.trans (b.mono h.lo)⟩
theorem PS.grow {w0 w1:World} (n:Nat) (h:Below w0.heap.size w0 w1) (hn:n≤281474976710656):
  Calls Tryz.prog 111 #[.pointer (some ⟨w1.heap.size,0,none⟩),.int .i64 (n:Int)] (w1.alloc (.cells #[.pointer none,.slice none 0 0] 148)) fun e w'=>e=.returned (.tuple #[])∧PS w0 w1.heap.size [] w':=by
 have A:=alloc_b w1 (.cells #[.pointer none,.slice none 0 0] 148)
 refine (bgrow_any w1.heap.size w1.heap.size n _ (Nat.le_refl _) (heap_alloc_new w1 _) A.size hn).mono ?_
 rintro e w' ⟨rfl,i,b⟩
 exact ⟨rfl,below_on h A |>.trans (b.mono h.size),i,Nat.le_trans A.size b.size,h.size⟩
end Go.Proofs.YtbdhlfklcdegdaaGreatDoor

namespace Go.Proofs.YtbdhlfklcdegdaaGreatDoor
open Go.RowKit Go.Deep Go.Shelf
theorem frepeat_any (c:Nat) (w:World) (hc:c≤100000):
  Calls Tryz.prog 112 #[.string ⟨#[48]⟩,.int .i64 (c:Int)] w fun e w'=>∃s,e=.returned (.string s)∧Str s (List.replicate c 48)∧Below w.heap.size w w':=by
 refine (jrep48 c w hc).mono ?_
 rintro e w' ⟨rfl,hB⟩
 exact ⟨_,rfl,by have q:=Str.of_nums (Wh.By.rep (c:=48) (n:=(c:Int)) (by omega));rw [Wh.rep,Int.toNat_natCast] at q ⊢;exact q,hB⟩
end Go.Proofs.YtbdhlfklcdegdaaGreatDoor

namespace Go.Proofs.YtbdhlfklcdegdaaGreatDoor
open Go.RowKit Go.Deep
theorem refSize_any (p:Option Addr) (n cap:Nat) (zs:List Int) (w:World) (hn:zs.length=n) (hm:n≤140737488355328) (h:Lies w p zs):
  Calls Tryz.prog 188 #[.slice p n cap] w fun e w'=>e=.returned (.int .i64 (Nm.tsize zs))∧w'=w:=by
 rcases h with rfl | ⟨b,off,rfl,hcell⟩
 ·have hn0:n=0:=by simpa using hn.symm
  subst hn0
  go_enter Tryz.func188,Tryz.ntmps188
  go_wp2
  refine wp_loop_rounds 1 ?_
  rw [rounds_succ]
  go_wp2
  go_ret
  exact ⟨rfl,rfl⟩
 ·have H:Hid (zs.length=n):=hn
  have HC:Hid (∀i,i<zs.length→w.cell? ⟨b,off+i,none⟩=some (.int .u64 (zs.getD i 0))):=hcell
  clear hn hcell
  go_enter Tryz.func188,Tryz.ntmps188
  go_wp2
  go_loop [3] (fun t=>∃k:Nat,k≤n∧t=.int .i64 k∧Hid (∀j,k≤j→zs.getD j 0=0)) (fun t=>(intOf t).toNat)
  case atStart=>exact ⟨n,Nat.le_refl _,rfl,fun j hj=>by simp [List.getD,List.getElem?_eq_none (show zs.length≤j by have:=H.out;omega)]⟩
  case round=>
   obtain ⟨k,hk,rfl,hz⟩:=hrel
   by_cases h0:k=0
   ·subst h0
    go_wp2
    go_ret
    exact ⟨by rw [Nm.tsize_unique zs 0 hz.out (.inl rfl)];rfl,rfl⟩
   ·obtain ⟨j,rfl⟩:∃j,k=j+1:=⟨k - 1,by omega⟩
    obtain ⟨x,hx,X⟩:∃x,w.cell? ⟨b,off+j,none⟩=some (.int .u64 x)∧Hid (x=zs.getD j 0):=⟨_,HC.out j (by have:=H.out;omega),rfl⟩
    by_cases hx0:x=0
    ·subst hx0
     go_wp2
     go_round
     case rel=>
      refine ⟨j,by omega,rfl,fun i hi=>?_⟩
      by_cases e:i=j
      ·subst e;exact X.out.symm
      ·exact hz.out i (by omega)
     case measure=>simp [intOf]
    ·go_wp2
     go_ret
     exact ⟨by rw [Nm.tsize_unique zs (j+1) hz.out (.inr (by rw [Nat.add_sub_cancel,←X.out];exact hx0))];rfl,rfl⟩
set_option maxRecDepth 100000 in
set_option maxHeartbeats 1000000 in
theorem refTrim_any (p:Option Addr) (n cap:Nat) (zs:List Int) (w:World) (ha:Arg w p n cap zs):
  Calls Tryz.prog 247 #[.slice p n cap] w fun e w'=>∃r os,e=.returned (.slice r (List.length os) (List.length os))∧os=Nm.trim zs∧Ans w.heap.size w' r os (Nm.val zs)∧Below w.heap.size w w':=by
 obtain ⟨a1,a2,a3,a4,a5⟩:=ha
 have tl:=Nm.tsize_le zs
 obtain ⟨N,HN⟩:∃N,Hid (Nm.tsize zs=N):=⟨_,rfl⟩
 have hNn:N≤n:=by have:=HN.out;omega
 have FIN:Hid (∀w',Grown w' w.heap.size (zs.take N) (N - N)→Below w.heap.size w w'→∃r os,Ending.returned (.slice (some ⟨w.heap.size,0,none⟩) N N)=.returned (.slice r (List.length os) (List.length os))∧os=Nm.trim zs∧Ans w.heap.size w' r os (Nm.val zs)∧Below w.heap.size w w'):=by
  intro w' hg hb
  have e:zs.take N=Nm.trim zs:=by rw [←HN.out];rfl
  rw [e] at hg
  refine ⟨some ⟨w.heap.size,0,none⟩,Nm.trim zs,?_,rfl,⟨hg.lies,a5.trim,?_,Nm.val_trim zs,fun a h=>?_⟩,hb⟩
  ·rw [Nm.trim_length,HN.out]
  ·rw [Nm.trim_trim,Nm.trim_length]
  ·cases h;exact Nat.le_refl _
 have hmk:=make64_room N (by omega) w
 have bm:=hid ((Below.refl w.heap.size w).alloc (Nat.le_refl _) (.cells (madeCells #[.int .u64 0] N) 24))
 have gm:=hid (Grown.made w N)
 generalize w.alloc (.cells (madeCells #[.int .u64 0] N) 24)=wm at hmk bm gm
 rcases a4 with rfl | ⟨b,off,rfl,hcell⟩
 ·have hn0:n=0:=by simpa using a1.symm
  subst hn0
  obtain rfl:N=0:=by omega
  have E:=hid (FIN.out wm (by simpa using gm.out) bm.out)
  clear FIN a1 a5 gm
  rw [show ((0:Nat):Int)=0 from rfl] at hmk
  go_enter Tryz.func247,Tryz.ntmps247
  go_wp2
  refine wp_loop_rounds 1 ?_
  rw [rounds_succ]
  go_wp2
  refine wp_loop_rounds 1 ?_
  rw [rounds_succ]
  go_wp2
  go_ret
  exact E.out
 ·have H:Hid (zs.length=n):=a1
  have HC:Hid (∀i,i<zs.length→w.cell? ⟨b,off+i,none⟩=some (.int .u64 (zs.getD i 0))):=hcell
  have hbw:0<N→b<w.heap.size:=fun h=>cell_lt (hcell 0 (by omega))
  clear a1 hcell a5 tl
  go_enter Tryz.func247,Tryz.ntmps247
  go_wp2
  go_loop [3] (fun t=>∃k:Nat,k≤n∧t=.int .i64 k∧Hid (∀j,k≤j→zs.getD j 0=0)) (fun t=>(intOf t).toNat)
  case atStart=>exact ⟨n,Nat.le_refl _,rfl,fun j hj=>by simp [List.getD,List.getElem?_eq_none (show zs.length≤j by have:=H.out;omega)]⟩
  case round=>
   obtain ⟨k,hk,rfl,hz⟩:=hrel
   by_cases h0:k=N
   ·subst h0
    by_cases h1:k=0
    ·subst h1
     rw [show ((0:Nat):Int)=0 from rfl] at hmk
     go_wp2
     refine wp_loop_rounds 1 ?_
     rw [rounds_succ]
     go_wp2
     go_ret
     exact FIN.out wm (by simpa using gm.out) bm.out
    ·obtain ⟨t,rfl⟩:∃t,k=t+1:=⟨k - 1,by omega⟩
     obtain ⟨x,hx,hx0⟩:∃x,w.cell? ⟨b,off+t,none⟩=some (.int .u64 x)∧x≠0:=by
      refine ⟨_,HC.out t (by have:=H.out;omega),?_⟩
      have:=Nm.tsize_top zs (by have:=HN.out;omega)
      rw [HN.out] at this
      exact this
     obtain ⟨N,hN,NE⟩:∃N,N≤n∧Hid (t+1=N):=⟨_,hk,rfl⟩
     have hmk2:(Instr.makeSlice 50 (.int .i64 0) (.int .i64 ((t:Int)+1))).run Tryz.prog w=.ok (.slice (some ⟨w.heap.size,0,none⟩) 0 N) wm:=by
      rw [NE.out] at hmk
      have e:(t:Int)+1=(N:Int):=by have:=NE.out;omega
      rw [e];exact hmk
     have hmk3:(Instr.makeSlice 50 (.int .i64 0) (.int .i64 ((t+1:Nat):Int))).run Tryz.prog w=.ok (.slice (some ⟨w.heap.size,0,none⟩) 0 N) wm:=by
      have e:=NE.out
      have h:=hmk
      rw [e] at h ⊢
      exact h
     have G0:Hid (Grown wm w.heap.size (zs.take 0) (N - 0)):=by have:=gm.out;rw [NE.out] at this;exact this
     have hbb:=hbw (by omega)
     have FI:Hid (∀w',Grown w' w.heap.size (zs.take N) (N - N)→Below w.heap.size w w'→∃r os,Ending.returned (.slice (some ⟨w.heap.size,0,none⟩) N N)=.returned (.slice r (List.length os) (List.length os))∧os=Nm.trim zs∧Ans w.heap.size w' r os (Nm.val zs)∧Below w.heap.size w w'):=by
      have:=FIN.out;rw [NE.out] at this;exact this
     have e2:(t:Int)+1=(N:Int):=by have:=NE.out;omega
     have E2:=hid e2
     clear hmk hmk3 gm hbw FIN e2 hNn
     go_wp2
     go_loopw [4,5] (fun a i wr=>∃j:Nat,j≤N∧i=.int .i64 j∧a=.slice (some ⟨w.heap.size,0,none⟩) j N∧Hid (Grown wr w.heap.size (zs.take j) (N - j))∧Below w.heap.size w wr) (fun _ i _=>N - (intOf i).toNat)
     case atStart=>exact ⟨0,Nat.zero_le _,rfl,rfl,G0.out,bm.out⟩
     case round=>
      obtain ⟨j,hj,rfl,rfl,G,hB⟩:=hrel
      by_cases hlt:j<N
      ·obtain ⟨y,hy,Y⟩:∃y,wr.cell? ⟨b,off+j,none⟩=some (.int .u64 y)∧Hid (y=zs.getD j 0):=⟨_,(hB.cell (p:=⟨b,off+j,none⟩) hbb).trans (HC.out j (by have:=H.out;omega)),rfl⟩
       have G':=G.out
       rw [show N - j=(N - j - 1)+1 by omega] at G'
       obtain ⟨w2,ap,gr,be,sz⟩:=push64 w.heap.size j (N - j - 1) N (zs.take j) y wr (by rw [List.length_take];have:=H.out;omega) (by omega) G'
       have AP:=hid ap
       have GR:=hid gr
       have BE:=hid (hB.trans be)
       have hlt':(j:Int)<(t:Int)+1:=by have:=E2.out;omega
       clear ap gr be sz hB G G'
       go_wp2_with (at_builtin;refine wpList_append_row rfl _ _ rfl AP.out (by rfl) (by rfl) ?_;clear AP)
       go_roundw
       case rel=>
        refine ⟨j+1,by omega,by go_num,rfl,?_,BE.out⟩
        have:=GR.out
        rw [Y.out,←Nm.take_snoc zs j (by have:=H.out;omega)] at this
        exact this
       case measure=>simp [intOf];omega
      ·obtain rfl:j=N:=by omega
       have hlt':¬(j:Int)<(t:Int)+1:=by have:=E2.out;omega
       have E:=hid (FI.out wr G.out hB)
       clear FI G hB
       go_wp2
       go_ret
       exact E.out
   ·obtain ⟨j,rfl⟩:∃j,k=j+1:=by
     refine ⟨k - 1,?_⟩
     rcases Nat.eq_zero_or_pos k with hk0 | hk0
     ·exfalso
      have:=Nm.tsize_unique zs 0 (by rw [←hk0];exact hz.out) (.inl rfl)
      have:=HN.out
      omega
     ·omega
    obtain ⟨x,hx,X⟩:∃x,w.cell? ⟨b,off+j,none⟩=some (.int .u64 x)∧Hid (x=zs.getD j 0):=⟨_,HC.out j (by have:=H.out;omega),rfl⟩
    have hx0:x=0:=by
     by_cases hx0:x=0
     ·exact hx0
     ·exfalso
      have:=Nm.tsize_unique zs (j+1) hz.out (.inr (by rw [Nat.add_sub_cancel,←X.out];exact hx0))
      have:=HN.out
      omega
    subst hx0
    go_wp2
    go_round
    case rel=>
     refine ⟨j,by omega,rfl,fun i hi=>?_⟩
     by_cases e:i=j
     ·subst e;exact X.out.symm
     ·exact hz.out i (by omega)
    case measure=>simp [intOf]
end Go.Proofs.YtbdhlfklcdegdaaGreatDoor

namespace Go.Proofs.YtbdhlfklcdegdaaGreatDoor
open Go.RowKit Go.Deep
theorem slimbs_any (p:Option Addr) (n cap:Nat) (zs:List Int) (w:World) (hn:zs.length=n) (hm:n≤140737488355328) (h:Lies w p zs):
  Calls Tryz.prog 206 #[.slice p n cap] w fun e w'=>e=.returned (.int .i64 (Nm.tsize zs))∧w'=w:=by
 rcases h with rfl | ⟨b,off,rfl,hcell⟩
 ·have hn0:n=0:=by simpa using hn.symm
  subst hn0
  go_enter Tryz.func206,Tryz.ntmps206
  go_wp2
  refine wp_loop_rounds 1 ?_
  rw [rounds_succ]
  go_wp2
  go_ret
  exact ⟨rfl,rfl⟩
 ·have H:Hid (zs.length=n):=hn
  have HC:Hid (∀i,i<zs.length→w.cell? ⟨b,off+i,none⟩=some (.int .u64 (zs.getD i 0))):=hcell
  clear hn hcell
  go_enter Tryz.func206,Tryz.ntmps206
  go_wp2
  go_loop [3] (fun t=>∃k:Nat,k≤n∧t=.int .i64 k∧Hid (∀j,k≤j→zs.getD j 0=0)) (fun t=>(intOf t).toNat)
  case atStart=>exact ⟨n,Nat.le_refl _,rfl,fun j hj=>by simp [List.getD,List.getElem?_eq_none (show zs.length≤j by have:=H.out;omega)]⟩
  case round=>
   obtain ⟨k,hk,rfl,hz⟩:=hrel
   by_cases h0:k=0
   ·subst h0
    go_wp2
    go_ret
    exact ⟨by rw [Nm.tsize_unique zs 0 hz.out (.inl rfl)];rfl,rfl⟩
   ·obtain ⟨j,rfl⟩:∃j,k=j+1:=⟨k - 1,by omega⟩
    obtain ⟨x,hx,X⟩:∃x,w.cell? ⟨b,off+j,none⟩=some (.int .u64 x)∧Hid (x=zs.getD j 0):=⟨_,HC.out j (by have:=H.out;omega),rfl⟩
    by_cases hx0:x=0
    ·subst hx0
     go_wp2
     go_round
     case rel=>
      refine ⟨j,by omega,rfl,fun i hi=>?_⟩
      by_cases e:i=j
      ·subst e;exact X.out.symm
      ·exact hz.out i (by omega)
     case measure=>simp [intOf]
    ·go_wp2
     go_ret
     exact ⟨by rw [Nm.tsize_unique zs (j+1) hz.out (.inr (by rw [Nat.add_sub_cancel,←X.out];exact hx0))];rfl,rfl⟩
def vv (x:Int):Int:=if 48≤x∧x≤57 then x - 48 else if 97≤x∧x≤122 then x - 97+10 else if 65≤x∧x≤90 then x - 65+10 else 99
def dgt (v:Int) (up:Bool):Int:=if v<10 then 48+v else if up then 65+v - 10 else 97+v - 10
theorem ret_u8 {a b:Int} (h:a=b):Ending.returned (.int .u8 a)=.returned (.int .u8 b):=by rw [h]
set_option maxRecDepth 100000 in
theorem sdigit_any (v:Int) (up:Bool) (w:World) (h0:0≤v) (h1:v<36):Calls Tryz.prog 209 #[.int .i64 v,.bool up] w fun e w'=>e=.returned (.int .u8 (dgt v up))∧w'=w:=by
 by_cases h:v<10
 ·have E:Hid (48+v=dgt v up):=by show _=_;rw [dgt,if_pos h]
  go_enter Tryz.func209,Tryz.ntmps209
  go_wp2
  go_ret
  exact ⟨ret_u8 E.out,rfl⟩
 ·cases up with
  | true=>
   have E:Hid (65+v - 10=dgt v true):=by show _=_;rw [dgt,if_neg h];rfl
   have h2:10≤v:=by omega
   clear h
   go_enter Tryz.func209,Tryz.ntmps209
   go_wp2
   go_ret
   exact ⟨ret_u8 E.out,rfl⟩
  | false=>
   have E:Hid (97+v - 10=dgt v false):=by show _=_;rw [dgt,if_neg h];rfl
   have h2:10≤v:=by omega
   clear h
   go_enter Tryz.func209,Tryz.ntmps209
   go_wp2
   go_ret
   exact ⟨ret_u8 E.out,rfl⟩
set_option maxRecDepth 100000 in
set_option maxHeartbeats 1000000 in
theorem sgroup_any (B:Int) (w:World) (h2:2≤B) (h36:B≤36):
  Calls Tryz.prog 207 #[.int .i64 B] w fun e w'=>(∃(k:Nat) (P:Int),e=.returned (.tuple #[.int .i64 (k:Int),.int .u64 P])∧P=B^k∧k≤30∧1≤P∧P<2147483648∧2147483648≤P*B)∧w'=w:=by
 go_enter Tryz.func207,Tryz.ntmps207
 go_wp2_with fail
 go_loop [4,5] (fun c p=>∃(P:Int) (k:Nat),p=.int .u64 P∧c=.int .i64 (k:Int)∧1≤P∧P<2147483648∧Hid (P=B^k∧k≤30)) (fun c _=>31 - (intOf c).toNat)
 case atStart=>exact ⟨1,0,rfl,rfl,by omega,by omega,by rw [Int.pow_zero],by omega⟩
 case round=>
  obtain ⟨P,k,rfl,rfl,hP1,hP2,F⟩:=hrel
  have hk:(k:Int)≤30:=by have:=F.out.2;omega
  have hm0:P*1≤P*B:=Int.mul_le_mul_of_nonneg_left (by omega) (by omega)
  have hm1:P*B≤P*36:=Int.mul_le_mul_of_nonneg_left h36 (by omega)
  obtain ⟨Q,hQ⟩:∃Q,P*B=Q:=⟨_,rfl⟩
  have q1:IntKind.u64.wrap (P*B)=Q:=by rw [hQ,IntKind.wrap_u64];omega
  have hq0:1≤Q:=by omega
  have hq1:Q<18446744073709551616:=by omega
  have HQ:=hid hQ
  clear hm0 hm1 hQ
  by_cases hlt:Q<2147483648
  ·have K2:Hid (Q=B^(k+1)∧k+1≤30):=by
    have e:Q=B^(k+1):=by rw [Int.pow_succ,←F.out.1,HQ.out]
    refine ⟨e,?_⟩
    have:=Ln.small (A:=B^(k+1)) (L:=31) h2 (Int.le_refl _) (by rw [←e,show (2:Int)^31=2147483648 by decide];exact hlt)
    omega
   go_wp2_with fail
   go_round
   case rel=>exact ⟨Q,k+1,rfl,by go_num,hq0,hlt,K2.out⟩
   case measure=>simp [intOf];have:=F.out.2;omega
  ·go_wp2_with fail
   go_ret2
   exact ⟨⟨k,P,rfl,F.out.1,F.out.2,hP1,hP2,by rw [HQ.out];omega⟩,rfl⟩
end Go.Proofs.YtbdhlfklcdegdaaGreatDoor
