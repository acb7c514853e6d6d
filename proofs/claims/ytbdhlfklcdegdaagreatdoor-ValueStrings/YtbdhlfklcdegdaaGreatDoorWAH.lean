/-
  Texts put together: VStr, VaC, VItoa, VClone, NMem, NStr, NDigit, NDv, Len, BitLenW, SmallA, BlenIs, NToU, NSpread0, Walk5, Small, QLimbs, FromW, NGroup, NBTrim, FTrimR, TrailW, MSt, VTrimL, NSTrim, NClone, NLimb, JPadN, JLay, PoLay, NPush, VPush, QTop, ZPush, SPush, DRef13, DRefN, FTab, LTab.
-/
import Derived.Test.YtbdhlfklcdegdaaGreatDoorV0
import Derived.Test.YtbdhlfklcdegdaaGreatDoorWAD
import Derived.Laws.BytesArg
import Derived.Laws.IdiomStrings
import Derived.Laws.Strings3
import Derived.Laws.DeepStrings4
import Derived.Deep.LoopGhost
import Derived.Deep.RegionHeld3
import Derived.Deep.CutBlock
import Derived.Deep.CutRange
import Derived.Deep.DeepCutAuto
import Derived.Shelf.Strconv.Itoa3
import Derived.Shelf.Pu.Clone
import Derived.Test.YtbdhlfklcdegdaaGreatDoorWAC
import Derived.Shelf.Strconv.Itoa0
import Derived.Laws.Bits64b
import Derived.Lib.ItoaNum
import Derived.BigRegion
import Derived.Shelf.Spec.TrailingZeros
import Derived.Test.YtbdhlfklcdegdaaGreatDoorXMem
import Derived.Shelf.Strings.Repeat
import Derived.Shelf.Small.Strs
import Derived.Shelf.Strings.OnBuilder
import Derived.Laws.AppendOwn
import Derived.Laws.OwnMore
import Derived.Test.YtbdhlfklcdegdaaGreatDoorRefNum
import Derived.OwnWalk
import Derived.Lib.LaidTab
namespace Go.Proofs.YtbdhlfklcdegdaaGreatDoor
open Go.RowKit Go.Deep
def Str (s:ByteArray) (xs:List Int):Prop:=s.data.toList.map (fun b=>(b.toNat:Int))=xs
theorem Str.self (s:ByteArray):Str s (s.data.toList.map (fun b=>(b.toNat:Int))):=rfl
theorem Str.size {s:ByteArray} {xs:List Int} (h:Str s xs):s.size=xs.length:=by
 rw [←h,List.length_map,Array.length_toList]
 rfl
theorem Str.at {s:ByteArray} {xs:List Int} (h:Str s xs) (t:Nat) (ht:t<s.size):((s[t]'ht).toNat:Int)=xs.getD t 0:=by
 rw [←h]
 have:t<s.data.toList.length:=by rw [Array.length_toList];exact ht
 simp only [List.getD_eq_getElem?_getD,List.getElem?_map,List.getElem?_eq_getElem this,Option.map_some,Option.getD_some]
 rfl
theorem Str.mem {s:ByteArray} {xs:List Int} (h:Str s xs) {x:Int} (hx:x∈xs):0≤x∧x<256:=by
 rw [←h] at hx
 obtain ⟨b,_,rfl⟩:=List.mem_map.1 hx
 have:=b.toNat_lt
 omega
theorem Str.atb {s:ByteArray} {xs:List Int} (h:Str s xs) (t:Nat):0≤xs.getD t 0∧xs.getD t 0<256:=by
 by_cases ht:t<xs.length
 ·have:xs.getD t 0=xs[t]:=by simp [List.getD,ht]
  rw [this]
  exact h.mem (List.getElem_mem ht)
 ·rw [show xs.getD t 0=0 by simp [List.getD,List.getElem?_eq_none (show xs.length≤t by omega)]]
  omega
theorem Str.extract {s:ByteArray} {xs:List Int} (h:Str s xs) (a b:Nat):Str (s.extract a b) ((xs.drop a).take (b - a)):=by
 unfold Str at *
 rw [←h,ByteArray.data_extract]
 simp [List.map_drop,List.map_take]
theorem Str.of_nums {xs:List Int} (h:∀x∈xs,0≤x∧x<256):Str (strOfNums xs) xs:=by
 unfold Str
 rw [strOfNums_data,List.map_map]
 conv=>rhs;rw [←List.map_id xs]
 apply List.map_congr_left
 intro x hx
 have:=h x hx
 simp only [Function.comp,id]
 rw [UInt8.toNat_ofNat_of_lt' (by show x.toNat<256;omega)]
 omega
theorem Str.inj {s t:ByteArray} {xs:List Int} (h:Str s xs) (k:Str t xs):s=t:=by
 unfold Str at h k
 have e:s.data.toList=t.data.toList:=by
  rw [←k] at h
  exact List.map_inj_right (fun a b hab=>by
   have:a.toNat=b.toNat:=by omega
   exact UInt8.toNat_inj.1 this) |>.1 h
 cases s
 cases t
 simp only at e
 rw [Array.toList_inj.1 e]
theorem Str.eq {s t:ByteArray} {xs ys:List Int} (h:Str s xs) (k:Str t ys):(s.toList == t.toList)=decide (xs=ys):=by
 by_cases e:xs=ys
 ·subst e
  rw [h.inj k]
  simp
 ·rw [decide_eq_false e,beq_eq_false_iff_ne]
  intro c
  apply e
  rw [ByteArray.toList_eq,ByteArray.toList_eq] at c
  rw [←h,←k,c]
end Go.Proofs.YtbdhlfklcdegdaaGreatDoor

namespace Go.Proofs.YtbdhlfklcdegdaaGreatDoor
open Go Go.RowKit Go.Deep
namespace Va
def ins (k n:Int) (s:ByteArray):Value:=if k=1 then .iface 85 (.agg #[.int .u64 n]) else if k=2 then .iface 69 (.agg #[.string s]) else if k=3 then .iface 66 (.agg #[.int .u64 n,.string s]) else .iface 129 (.agg #[])
end Va
set_option maxRecDepth 100000 in
theorem vinside_any (k n:Int) (s:ByteArray) (w:World):
  Calls Tryz.prog 49 #[.agg #[.int .i64 k,.int .u64 n,.string s]] w fun e w'=>e=.returned (Va.ins k n s)∧Below w.heap.size w w':=by
 have B:=hid (alloc_b w (.cells #[.int .i64 k,.int .u64 n,.string s] 26))
 by_cases k1:k=1
 ·subst k1
  go_enter Tryz.func49,Tryz.ntmps49
  go_wp2_with fail
  go_ret
  exact ⟨rfl,B.out⟩
 have e1:(k == 1)=false:=by simpa using k1
 by_cases k2:k=2
 ·subst k2
  go_enter Tryz.func49,Tryz.ntmps49
  go_wp2_with fail
  go_ret
  exact ⟨rfl,B.out⟩
 have e2:(k == 2)=false:=by simpa using k2
 by_cases k3:k=3
 ·subst k3
  go_enter Tryz.func49,Tryz.ntmps49
  go_wp2_with fail
  go_ret
  exact ⟨rfl,B.out⟩
 have e3:(k == 3)=false:=by simpa using k3
 have F:Hid (Va.ins k n s=.iface 129 (.agg #[])):=by rw [Hid,Va.ins,if_neg k1,if_neg k2,if_neg k3]
 clear k1 k2 k3
 go_enter Tryz.func49,Tryz.ntmps49
 go_wp2_with fail
 go_ret
 exact ⟨by rw [F.out];rfl,B.out⟩
end Go.Proofs.YtbdhlfklcdegdaaGreatDoor

namespace Go.Proofs.YtbdhlfklcdegdaaGreatDoor
open Go Go.RowKit Go.Deep Go.Shelf
def itoaLays_ren:Go.Shelf.Ren:=⟨fun | 171=>252 | 243=>275 | 246=>93 | 283=>148 | 284=>149 | 285=>150 | 286=>151 | 129=>98 | 317=>219 | 318=>220 | 319=>221 | 320=>222 | 337=>261 | 338=>57 | n=>n,fun | 3=>3 | 9=>9 | 2=>2 | 4=>4 | 171=>180 | 0=>0 | 53=>24 | 37=>146 | 5=>5 | 173=>182 | 212=>233 | 51=>234 | 20=>20 | 213=>235 | 46=>133 | 232=>281 | 233=>134 | n=>n,fun | 17=>1 | 18=>3 | 19=>0 | n=>n⟩
theorem itoaLays:Go.Proofs.LaysM.n171 Tryz.prog itoaLays_ren:={
 mixed:=by kernel_rfl
 f129:=Tryz.func98.trans (congrArg some (by kernel_rfl))
 f171:=Tryz.func252.trans (congrArg some (by kernel_rfl))
 f243:=Tryz.func275.trans (congrArg some (by kernel_rfl))
 f246:=Tryz.func93.trans (congrArg some (by kernel_rfl))
 f283:=Tryz.func148.trans (congrArg some (by kernel_rfl))
 f284:=Tryz.func149.trans (congrArg some (by kernel_rfl))
 f285:=Tryz.func150.trans (congrArg some (by kernel_rfl))
 f286:=Tryz.func151.trans (congrArg some (by kernel_rfl))
 f317:=Tryz.func219.trans (congrArg some (by kernel_rfl))
 f318:=Tryz.func220.trans (congrArg some (by kernel_rfl))
 f319:=Tryz.func221.trans (congrArg some (by kernel_rfl))
 f320:=Tryz.func222.trans (congrArg some (by kernel_rfl))
 f337:=Tryz.func261.trans (congrArg some (by kernel_rfl))
 f338:=Tryz.func57.trans (congrArg some (by kernel_rfl))
 t0:=Tryz.underlying0
 a0:=Tryz.isAgg0
 z0:=Tryz.sizeOf0
 v0:=Tryz.zeroValue0
 t2:=Tryz.underlying2
 a2:=Tryz.isAgg2
 z2:=Tryz.sizeOf2
 v2:=Tryz.zeroValue2
 t3:=Tryz.underlying3
 a3:=Tryz.isAgg3
 z3:=Tryz.sizeOf3
 v3:=Tryz.zeroValue3
 t4:=Tryz.underlying4
 a4:=Tryz.isAgg4
 z4:=Tryz.sizeOf4
 v4:=Tryz.zeroValue4
 t5:=Tryz.underlying5
 a5:=Tryz.isAgg5
 z5:=Tryz.sizeOf5
 v5:=Tryz.zeroValue5
 t9:=Tryz.underlying9
 a9:=Tryz.isAgg9
 z9:=Tryz.sizeOf9
 v9:=Tryz.zeroValue9
 t20:=Tryz.underlying20
 a20:=Tryz.isAgg20
 z20:=Tryz.sizeOf20
 v20:=Tryz.zeroValue20
 t37:=Tryz.underlying146
 a37:=Tryz.isAgg146
 z37:=Tryz.sizeOf146
 v37:=Tryz.zeroValue146
 t46:=Tryz.underlying133
 a46:=Tryz.isAgg133
 z46:=Tryz.sizeOf133
 v46:=Tryz.zeroValue133
 t51:=Tryz.underlying234
 a51:=Tryz.isAgg234
 z51:=Tryz.sizeOf234
 v51:=Tryz.zeroValue234
 t53:=Tryz.underlying24
 a53:=Tryz.isAgg24
 z53:=Tryz.sizeOf24
 v53:=Tryz.zeroValue24
 t171:=Tryz.underlying180
 a171:=Tryz.isAgg180
 z171:=Tryz.sizeOf180
 v171:=Tryz.zeroValue180
 t173:=Tryz.underlying182
 a173:=Tryz.isAgg182
 z173:=Tryz.sizeOf182
 v173:=Tryz.zeroValue182
 t212:=Tryz.underlying233
 a212:=Tryz.isAgg233
 z212:=Tryz.sizeOf233
 v212:=Tryz.zeroValue233
 t213:=Tryz.underlying235
 a213:=Tryz.isAgg235
 z213:=Tryz.sizeOf235
 t232:=Tryz.underlying281
 a232:=Tryz.isAgg281
 z232:=Tryz.sizeOf281
 v232:=Tryz.zeroValue281
 t233:=Tryz.underlying134
 a233:=Tryz.isAgg134
 z233:=Tryz.sizeOf134
 v233:=Tryz.zeroValue134
 g17:=by kernel_rfl
 g18:=by kernel_rfl
 g19:=by kernel_rfl
 i0:=by kernel_rfl
 i2:=by kernel_rfl
 i3:=by kernel_rfl
 i4:=by kernel_rfl
 i5:=by kernel_rfl
 i9:=by kernel_rfl
 i20:=by kernel_rfl
 i37:=by kernel_rfl
 i46:=by kernel_rfl
 i51:=by kernel_rfl
 i53:=by kernel_rfl
 i171:=by kernel_rfl
 i173:=by kernel_rfl
 i212:=by kernel_rfl
 i232:=by kernel_rfl
 i233:=by kernel_rfl
 m17:=by kernel_rfl
 m18:=by kernel_rfl
 m19:=by kernel_rfl }
def Tab10 (w:World):Prop:=Lib.TabIs Tryz.prog w "internal/strconv.uint64pow10" .u64 Lib.pow10Tab
def itl (n:Int):List Int:=(Lib.itoa n).map fun b=>(b.toNat:Int)
theorem itl_str (n:Int):Str ⟨(Lib.itoa n).toArray⟩ (itl n):=rfl
theorem below_grown {w:World} (k:Nat) (os:Array Obj):Below w.heap.size w (Go.Sort.grow (w.drewN k) os):=by
 refine ⟨rfl,rfl,rfl,?_,fun j hj=>?_⟩
 ·show w.heap.size≤(w.heap++os).size
  simp
 ·show (w.heap++os)[j]?=w.heap[j]?
  rw [Array.getElem?_append_left hj]
theorem itoa_any (n:Int) (w:World) (h0:-9223372036854775808≤n) (h1:n≤9223372036854775807) (ht:Tab10 w):
  Calls Tryz.prog 252 #[.int .i64 n] w fun e w'=>e=.returned (.string ⟨(Lib.itoa n).toArray⟩)∧Below w.heap.size w w':=by
 refine (Any.strconv_Itoa itoaLays n h0 h1 w ht).mono ?_
 rintro e w' ⟨rfl,k,os,rfl⟩
 exact ⟨rfl,below_grown k os⟩
end Go.Proofs.YtbdhlfklcdegdaaGreatDoor

namespace Go.Proofs.YtbdhlfklcdegdaaGreatDoor
open Go.RowKit Go.Deep Go.Shelf
def vcloneRen:Go.Shelf.Ren:=⟨fun _=>92,fun t=>if t=37 then 146 else if t=47 then 178 else if t=5 then 5 else if t=9 then 9 else if t=3 then 3 else t,fun g=>g⟩
theorem vcloneLays:LaysPu.n25 Tryz.prog vcloneRen where
 mixed:=by kernel_rfl
 f25:=by kernel_rfl
 t0:=by kernel_rfl
 a0:=fun _=>by kernel_rfl
 z0:=fun _=>by kernel_rfl
 v0:=fun _=>by kernel_rfl
 i0:=by kernel_rfl
 t3:=by kernel_rfl
 a3:=fun _=>by kernel_rfl
 z3:=fun _=>by kernel_rfl
 v3:=fun _=>by kernel_rfl
 i3:=by kernel_rfl
 t4:=by kernel_rfl
 a4:=fun _=>by kernel_rfl
 z4:=fun _=>by kernel_rfl
 v4:=fun _=>by kernel_rfl
 i4:=by kernel_rfl
 t5:=by kernel_rfl
 a5:=fun _=>by kernel_rfl
 z5:=fun _=>by kernel_rfl
 v5:=fun _=>by kernel_rfl
 i5:=by kernel_rfl
 t9:=by kernel_rfl
 a9:=fun _=>by kernel_rfl
 z9:=fun _=>by kernel_rfl
 v9:=fun _=>by kernel_rfl
 i9:=by kernel_rfl
 t37:=by kernel_rfl
 a37:=fun _=>by kernel_rfl
 z37:=fun _=>by kernel_rfl
 v37:=fun _=>by kernel_rfl
 i37:=by kernel_rfl
 t47:=by kernel_rfl
 a47:=fun _=>by kernel_rfl
 z47:=fun _=>by kernel_rfl
 v47:=fun _=>by kernel_rfl
 i47:=by kernel_rfl
theorem vclone_any (s:ByteArray) (w:World) (hs:s.size≤281474976710656):Calls Tryz.prog 51 #[.string s] w fun e w'=>e=.returned (.string s)∧Below w.heap.size w w':=by
 have C:Hid (Calls Tryz.prog 92 #[.string s] w fun e w'=>e=.returned (.string s)∧Below w.heap.size w w'):=AnyPu.stringslite_Clone vcloneLays s w (by omega)
 go_enter Tryz.func51,Tryz.ntmps51
 go_wp2_with fail
 refine C.out.mono ?_
 rintro e w1 ⟨rfl,d1⟩
 have D:=hid d1
 clear d1
 go_wp2_with fail
 go_ret
 exact ⟨rfl,D.out⟩
end Go.Proofs.YtbdhlfklcdegdaaGreatDoor

namespace Go.Proofs.YtbdhlfklcdegdaaGreatDoor
open Go.RowKit Go.Deep
def OwnB (w:World) (g:Nat) (zs:List Int):Prop:=w.heap[g]?=some (.cells (zs.map (Value.int .u8)).toArray 5 (0,0))
theorem OwnB.cell {w:World} {g:Nat} {zs:List Int} (h:OwnB w g zs) (i:Nat) (hi:i<zs.length):w.cell? ⟨g,i,none⟩=some (.int .u8 (zs.getD i 0)):=by
 simp only [OwnB] at h
 simp [World.cell?,h,List.getD,hi]
theorem OwnB.free {w:World} {g:Nat} {zs:List Int} (h:OwnB w g zs) (i:Nat):w.frozen? ⟨g,i,none⟩=false:=by
 simp only [OwnB] at h
 simp [World.frozen?,h]
theorem OwnB.lt {w:World} {g:Nat} {zs:List Int} (h:OwnB w g zs):g<w.heap.size:=by
 rcases Nat.lt_or_ge g w.heap.size with hl | hl
 ·exact hl
 ·simp [OwnB,Array.getElem?_eq_none hl] at h
theorem OwnB.set {w:World} {g:Nat} {zs:List Int} (h:OwnB w g zs) (i:Nat) (s:Int):OwnB (w.setCell ⟨g,i,none⟩ (.int .u8 s)) g (zs.set i s):=by
 have hl:=h.lt
 simp only [OwnB] at h ⊢
 simp [World.setCell,Array.getElem?_modify,h,List.map_set]
theorem OwnB.below {w w':World} {B g:Nat} {zs:List Int} (h:OwnB w g zs) (hb:Below B w w') (hg:g<B):OwnB w' g zs:=by
 simp only [OwnB] at h ⊢
 rw [hb.block g hg,h]
theorem OwnB.drewN {w:World} {g:Nat} {zs:List Int} (h:OwnB w g zs) (n:Nat):OwnB (w.drewN n) g zs:=h
theorem OwnB.alloc (w:World) (zs:List Int):OwnB (w.alloc (.cells (zs.map (Value.int .u8)).toArray 5)) w.heap.size zs:=by
 show (w.heap.push _)[w.heap.size]?=_
 rw [Array.getElem?_push,if_pos rfl]
theorem made_zero8 (n:Nat):madeCells #[Value.int .u8 0] n=((List.replicate n (0:Int)).map (Value.int .u8)).toArray:=by
 apply Array.toList_inj.1
 rw [toList_madeCells_one]
 simp
theorem info8:(Tryz.prog.info? 5).map (fun i=>(i.zero,i.size,i.bytes))=some (some (.int .u8 0),1,1):=by kernel_rfl
theorem make8 (n:Nat) (h:n≤35184372088832) (w:World):
  (Instr.makeSlice 146 (.int .i64 (n:Int)) (.int .i64 (n:Int))).run Tryz.prog w=.ok (.slice (some ⟨w.heap.size,0,none⟩) n n) (w.alloc (.cells (madeCells #[.int .u8 0] n) 5)):=
 run_make_row' 146 5 (.int .u8 0) 1 Tryz.underlying146 info8 rfl .i64 .i64 n (by omega) (by omega) w
structure Only (g:Nat) (w w':World):Prop where
 os:w'.os=w.os
 tape:w'.tape=w.tape
 output:w'.output=w.output
 size:w.heap.size≤w'.heap.size
 block:∀j,j<w.heap.size→j≠g→w'.heap[j]?=w.heap[j]?
theorem Only.refl (g:Nat) (w:World):Only g w w:=⟨rfl,rfl,rfl,Nat.le_refl _,fun _ _ _=>rfl⟩
theorem Only.trans {g:Nat} {a b c:World} (h:Only g a b) (k:Only g b c):Only g a c:=
 ⟨k.os.trans h.os,k.tape.trans h.tape,k.output.trans h.output,Nat.le_trans h.size k.size,fun i hi hs=>(k.block i (Nat.lt_of_lt_of_le hi h.size) hs).trans (h.block i hi hs)⟩
theorem Only.of_below {g:Nat} {a b:World} (h:Below a.heap.size a b):Only g a b:=⟨h.os,h.tape,h.output,h.size,fun i hi _=>h.block i hi⟩
theorem Only.below {g B:Nat} {a b:World} (h:Only g a b) (hg:B≤g) (hB:B≤a.heap.size):Below B a b:=⟨h.os,h.tape,h.output,h.size,fun i hi=>h.block i (by omega) (by omega)⟩
theorem Only.set {w:World} {g:Nat} (i:Nat) (v:Value):Only g w (w.setCell ⟨g,i,none⟩ v):=by
 refine ⟨rfl,rfl,rfl,by simp [World.setCell],fun j _ hne=>?_⟩
 simp only [World.setCell,Array.getElem?_modify]
 rw [if_neg (fun h=>hne h.symm)]
theorem Only.drewN {g:Nat} {a b:World} (h:Only g a b) (n:Nat):Only g a (b.drewN n):=⟨h.os,h.tape,h.output,h.size,h.block⟩
theorem Only.cell {g:Nat} {a b:World} (h:Only g a b) {p:Addr} {v:Value} (hc:a.cell? p=some v) (hp:p.block≠g):b.cell? p=some v:=by
 have:=h.block p.block (cell_lt hc) hp
 rw [←hc]
 simp only [World.cell?,this]
theorem Lies.only {w w':World} {g:Nat} {p:Option Addr} {zs:List Int} (h:Lies w p zs) (k:Only g w w') (hp:∀a,p=some a→a.block≠g):Lies w' p zs:=by
 rcases h with h | ⟨b,off,rfl,h⟩
 ·exact .inl h
 ·exact .inr ⟨b,off,rfl,fun i hi=>k.cell (h i hi) (hp ⟨b,off,none⟩ rfl)⟩
theorem Arg.only {w w':World} {g:Nat} {p:Option Addr} {n cap:Nat} {zs:List Int} (h:Arg w p n cap zs) (k:Only g w w') (hp:∀a,p=some a→a.block≠g):Arg w' p n cap zs:=⟨h.1,h.2.1,h.2.2.1,h.2.2.2.1.only k hp,h.2.2.2.2⟩
def put (ds:List Int) (o:Nat) (xs:List Int):List Int:=ds.take o++xs++ds.drop (o+xs.length)
theorem put_length (ds:List Int) (o:Nat) (xs:List Int) (h:o+xs.length≤ds.length):(put ds o xs).length=ds.length:=by
 simp [put]
 omega
theorem put_nil (ds:List Int) (o:Nat):put ds o []=ds:=by simp [put]
theorem put_head (ds:List Int) (o:Nat) (x:Int) (xs:List Int) (h:o+1+xs.length≤ds.length):(put ds (o+1) xs).set o x=put ds o (x::xs):=by
 have h1:ds.take (o+1)=ds.take o++[ds.getD o 0]:=by
  rw [List.take_add_one]
  simp [List.getElem?_eq_getElem (show o<ds.length by omega)]
 simp only [put,h1,List.length_cons]
 rw [List.append_assoc,List.append_assoc,List.set_append_right _ _ (by simp;omega)]
 simp [show min o ds.length=o by omega,show o+1+xs.length=o+(xs.length+1) by omega]
theorem put_two (ds:List Int) (o:Nat) (xs ys:List Int) (h:o+xs.length+ys.length≤ds.length):put (put ds o xs) (o+xs.length) ys=put ds o (xs++ys):=by
 have hl:(ds.take o++xs).length=o+xs.length:=by simp;omega
 simp only [put]
 rw [List.take_append_of_le_length (by omega),List.take_of_length_le (by omega),←hl,List.drop_append,List.drop_of_length_le (by omega),List.nil_append,List.drop_drop]
 simp only [hl,List.length_append,List.append_assoc]
 congr 4
 omega
end Go.Proofs.YtbdhlfklcdegdaaGreatDoor



namespace Go.Proofs.YtbdhlfklcdegdaaGreatDoor
open Go.RowKit Go.Deep
def wv (x:Int):Int:=if 48≤x∧x≤57 then x - 48 else if 97≤x∧x≤122 then x - 97+10 else if 65≤x∧x≤90 then x - 65+10 else 36
theorem wv_bd (x:Int):0≤wv x∧wv x≤36:=by
 unfold wv
 split
 ·omega
 ·split
  ·omega
  ·split <;> omega
theorem dret_u64 {a b:Int} (h:a=b):Ending.returned (.int .u64 a)=.returned (.int .u64 b):=by rw [h]
set_option maxRecDepth 100000 in
theorem worth_any (x:Int) (w:World) (h0:0≤x) (h1:x<256):
  Calls Tryz.prog 152 #[.int .u8 x] w fun e w'=>e=.returned (.int .u64 (wv x))∧w'=w:=by
 by_cases a1:48≤x∧x≤57
 ·have E:Hid (x - 48=wv x):=by show _=_;rw [wv,if_pos a1]
  obtain ⟨a1,a2⟩:=a1
  go_enter Tryz.func152,Tryz.ntmps152
  go_wp2
  go_ret
  exact ⟨dret_u64 E.out,rfl⟩
 by_cases a2:97≤x∧x≤122
 ·have E:Hid (x - 97+10=wv x):=by show _=_;rw [wv,if_neg a1,if_pos a2]
  obtain ⟨a3,a4⟩:=a2
  clear a1
  go_enter Tryz.func152,Tryz.ntmps152
  go_wp2
  go_ret
  exact ⟨dret_u64 E.out,rfl⟩
 by_cases a3:65≤x∧x≤90
 ·have E:Hid (x - 65+10=wv x):=by show _=_;rw [wv,if_neg a1,if_neg a2,if_pos a3]
  obtain ⟨a5,a6⟩:=a3
  clear a1 a2
  go_enter Tryz.func152,Tryz.ntmps152
  go_wp2
  go_ret
  exact ⟨dret_u64 E.out,rfl⟩
 ·have E:Hid (36=wv x):=by show _=_;rw [wv,if_neg a1,if_neg a2,if_neg a3]
  rcases (show x<48∨(57<x∧x<65)∨(90<x∧x<97)∨122<x by omega) with h | ⟨h,k⟩ | ⟨h,k⟩ | h <;> clear a1 a2 a3
  ·go_enter Tryz.func152,Tryz.ntmps152
   go_wp2
   go_ret
   exact ⟨dret_u64 E.out,rfl⟩
  ·go_enter Tryz.func152,Tryz.ntmps152
   go_wp2
   go_ret
   exact ⟨dret_u64 E.out,rfl⟩
  ·go_enter Tryz.func152,Tryz.ntmps152
   go_wp2
   go_ret
   exact ⟨dret_u64 E.out,rfl⟩
  ·go_enter Tryz.func152,Tryz.ntmps152
   go_wp2
   go_ret
   exact ⟨dret_u64 E.out,rfl⟩
inductive WrongIs (xs:List Int) (B:Int):Int→Prop
 | none:(∀i,i<xs.length→wv (xs.getD i 0)<B)→WrongIs xs B (-1)
 | here (t:Nat):t<xs.length→(∀i,i<t→wv (xs.getD i 0)<B)→B≤wv (xs.getD t 0)→WrongIs xs B (t:Int)
set_option maxRecDepth 100000 in
set_option maxHeartbeats 1000000 in
theorem wrong_any (s:ByteArray) (xs:List Int) (n:Nat) (B:Int) (w:World) (hs:Str s xs) (hn:xs.length=n) (hn1:n≤140737488355328):
  Calls Tryz.prog 96 #[.string s,.int .u64 B] w fun e w'=>(∃r,e=.returned (.int .i64 r)∧WrongIs xs B r)∧w'=w:=by
 have hsz:s.size=n:=by rw [hs.size,hn]
 have HS:=hid hs
 have HN:=hid hn
 clear hs hn
 go_enter Tryz.func96,Tryz.ntmps96
 go_wp2_with fail
 go_loop [5,8] (fun _ c=>∃j:Nat,c=.int .i64 (j:Int)∧j≤n∧Hid (∀i,i<j→wv (xs.getD i 0)<B)) (fun _ c=>n - (intOf c).toNat)
 case atStart=>exact ⟨0,rfl,Nat.zero_le _,fun i hi=>by omega⟩
 case round=>
  obtain ⟨j,rfl,hj,I⟩:=hrel
  by_cases hlt:j<n
  ·have hji:(j:Int)<(n:Int):=by omega
   obtain ⟨x,X⟩:∃x,Hid (xs.getD j 0=x):=⟨_,rfl⟩
   have hx:∀h:j<s.size,((s[j]'h).toNat:Int)=x:=fun h=>by rw [HS.out.at j h,X.out]
   have hxb:=HS.out.atb j
   rw [X.out] at hxb
   obtain ⟨hx0,hx1⟩:=hxb
   obtain ⟨v,V⟩:∃v,Hid (wv x=v):=⟨_,rfl⟩
   have WO:=hid (worth_any x w hx0 hx1)
   rw [V.out] at WO
   have hv0:0≤v:=by have:=(wv_bd x).1;have:=V.out;omega
   have hv1:v≤36:=by have:=(wv_bd x).2;have:=V.out;omega
   by_cases hd:v<B
   ·go_wp2_with fail
    refine WO.out.mono ?_
    rintro e w' ⟨rfl,rfl⟩
    have I2:Hid (∀i,i<j+1→wv (xs.getD i 0)<B):=fun i hi=>by
     by_cases e:i=j
     ·subst e;rw [X.out,V.out];exact hd
     ·exact I.out i (by omega)
    clear I WO
    go_wp2_with fail
    go_round
    case rel=>exact ⟨j+1,by go_num,by omega,I2.out⟩
    case measure=>simp [intOf];omega
   ·have F:Hid (WrongIs xs B (j:Int)):=.here j (by have:=HN.out;omega) I.out (by rw [X.out,V.out];omega)
    clear I
    go_wp2_with fail
    refine WO.out.mono ?_
    rintro e w' ⟨rfl,rfl⟩
    clear WO
    go_wp2_with fail
    go_ret
    exact ⟨⟨_,rfl,F.out⟩,rfl⟩
  ·obtain rfl:j=n:=by omega
   have F:Hid (WrongIs xs B (-1)):=.none (fun i hi=>I.out i (by have:=HN.out;omega))
   clear I
   go_wp2_with fail
   go_ret
   exact ⟨⟨_,rfl,F.out⟩,rfl⟩
end Go.Proofs.YtbdhlfklcdegdaaGreatDoor

namespace Go.Proofs.YtbdhlfklcdegdaaGreatDoor
open Go.RowKit Go.Deep
def dv (ds:List Int):Int:=Dn.tv 10 0 (ds.map (fun d=>d - 48))
def Digs (ds:List Int):Prop:=∀d∈ds,48≤d∧d≤57
theorem dv_append (xs ys:List Int):dv (xs++ys)=dv xs*10^ys.length+dv ys:=by
 unfold dv
 rw [List.map_append,Dn.tv_append,Dn.tv_acc,List.length_map]
theorem dv_cons (x:Int) (ys:List Int):dv (x::ys)=(x - 48)*10^ys.length+dv ys:=by
 have:=dv_append [x] ys
 simpa [dv,Dn.tv] using this
theorem dv_zeros:∀k,dv (List.replicate k 48)=0
 | 0=>rfl
 | k+1=>by
  rw [List.replicate_succ,dv_cons,dv_zeros k]
  simp
theorem dv_nines:∀k,dv (List.replicate k 57)=10^k - 1
 | 0=>rfl
 | k+1=>by
  rw [List.replicate_succ,dv_cons,dv_nines k,List.length_replicate,Int.pow_succ]
  omega
theorem dv_bd {ds:List Int} (h:Digs ds):0≤dv ds∧dv ds<10^ds.length:=by
 have hm:∀d∈ds.map (fun d=>d - 48),0≤d∧d<10:=fun d hd=>by
  obtain ⟨e,he,rfl⟩:=List.mem_map.1 hd
  have:=h e he
  omega
 have h2:=Dn.tv_lt (show (0:Int)<10 by omega) _ hm
 rw [List.length_map] at h2
 exact ⟨Dn.tv_nonneg (by omega) 0 _ (Int.le_refl _) (fun d hd=>(hm d hd).1),h2⟩
theorem wv_dig {x:Int} (h:48≤x∧x≤57):wv x=x - 48:=by rw [wv,if_pos h]
theorem digs_at {xs:List Int} (h:Digs xs) (i:Nat) (hi:i<xs.length):48≤xs.getD i 0∧xs.getD i 0≤57:=by
 have e:xs.getD i 0=xs[i]:=by simp [List.getD,hi]
 rw [e]
 exact h _ (List.getElem_mem hi)
end Go.Proofs.YtbdhlfklcdegdaaGreatDoor

namespace Go.Proofs.YtbdhlfklcdegdaaGreatDoor
open Go.RowKit Go.Deep
def lenRen:Go.Shelf.Ren:=⟨fun _=>98,fun t=>if t=53 then 24 else if t=46 then 133 else if t=5 then 5 else if t=9 then 9 else if t=4 then 4 else 3,fun g=>g⟩
theorem lenLays:Lays.n129 Tryz.prog lenRen where
 mixed:=by kernel_rfl
 f129:=by kernel_rfl
 t3:=by kernel_rfl
 a3:=fun _=>by kernel_rfl
 z3:=fun _=>by kernel_rfl
 v3:=fun _=>by kernel_rfl
 t4:=by kernel_rfl
 a4:=fun _=>by kernel_rfl
 z4:=fun _=>by kernel_rfl
 v4:=fun _=>by kernel_rfl
 t5:=by kernel_rfl
 a5:=fun _=>by kernel_rfl
 z5:=fun _=>by kernel_rfl
 v5:=fun _=>by kernel_rfl
 t9:=by kernel_rfl
 a9:=fun _=>by kernel_rfl
 z9:=fun _=>by kernel_rfl
 v9:=fun _=>by kernel_rfl
 t46:=by kernel_rfl
 a46:=fun _=>by kernel_rfl
 z46:=fun _=>by kernel_rfl
 v46:=fun _=>by kernel_rfl
 t53:=by kernel_rfl
 a53:=fun _=>by kernel_rfl
 z53:=fun _=>by kernel_rfl
 v53:=fun _=>by kernel_rfl
theorem len64 (x:Int) (w:World) (h0:0≤x) (h1:x<18446744073709551616):
  Calls Tryz.prog 98 #[.int .u64 x] w fun e w'=>e=.returned (.int .i64 (Lib.bitLen x.toNat))∧w'=w:=
 Any.bits_Len64 lenLays x w h0 (by omega)
theorem bitLen_small (x:Nat) (h:x<18446744073709551616):Lib.bitLen x≤64:=Lib.bitLen_le x 64 (Nat.le_refl _) (by simpa using h)
end Go.Proofs.YtbdhlfklcdegdaaGreatDoor

namespace Go.Proofs.YtbdhlfklcdegdaaGreatDoor
open Go.RowKit Go.Deep
def blen (zs:List Int):Int:=if Nm.tsize zs=0 then 0 else ((Nm.tsize zs:Int) - 1)*64+Lib.bitLen (zs.getD (Nm.tsize zs - 1) 0).toNat
theorem blen_trim (zs:List Int) (t:Nat) (ht:Nm.tsize zs=t+1):blen zs=(t:Int)*64+Lib.bitLen ((Nm.trim zs).getD t 0).toNat:=by
 have e:(Nm.trim zs).getD t 0=zs.getD t 0:=by rw [Nm.trim,Nm.getD_take,if_pos (by omega)]
 rw [blen,if_neg (by omega),e,ht]
 simp
theorem retI {a b:Int} (h:a=b):Ending.returned (.int .i64 a)=.returned (.int .i64 b):=by rw [h]
set_option maxRecDepth 100000 in
set_option maxHeartbeats 1000000 in
theorem bitLen_any (p:Option Addr) (n cap:Nat) (zs:List Int) (w:World) (ha:Arg w p n cap zs):
  Calls Tryz.prog 59 #[.slice p n cap] w fun e w'=>e=.returned (.int .i64 (blen zs))∧w'=w:=by
 obtain ⟨a1,a2,a3,a4,a5⟩:=ha
 have tl:=Nm.tsize_le zs
 by_cases h0:Nm.tsize zs=0
 ·have h0':((Nm.tsize zs:Int) == 0)=true:=by simp [h0]
  have E:Hid (blen zs=0):=by rw [Hid,blen,if_pos h0]
  clear h0 tl
  go_enter Tryz.func59,Tryz.ntmps59
  go_wp2_with fail
  refine (trimmed_any p n cap zs _ a1 a2 (by omega) a4).mono ?_
  rintro e w' ⟨rfl,rfl⟩
  go_wp2_with fail
  go_ret
  exact ⟨retI E.out.symm,rfl⟩
 ·obtain ⟨t,ht⟩:∃t,Nm.tsize zs=t+1:=⟨Nm.tsize zs - 1,by omega⟩
  have T1:=trimmed_any p n cap zs w a1 a2 (by omega) a4
  rw [ht] at T1
  have h0':((t:Int)+1 == 0)=false:=by rw [beq_eq_false_iff_ne];omega
  have E:=hid (blen_trim zs t ht)
  have L:=hid ((Nm.trim_length zs).trans ht)
  obtain ⟨b,off,rfl,hc⟩:∃b off,p=some ⟨b,off,none⟩∧w.cell? ⟨b,off+t,none⟩=some (.int .u64 ((Nm.trim zs).getD t 0)):=by
   have l:=L.out
   rcases a4.trim with h | ⟨b,off,hp,h⟩
   ·rw [h] at l
    simp at l
   ·exact ⟨b,off,hp,h t (by omega)⟩
  obtain ⟨x,X⟩:∃x,Hid (x=(Nm.trim zs).getD t 0):=⟨_,rfl⟩
  rw [←X.out] at hc
  have hx0:=a5.trim.at t
  rw [←X.out] at hx0
  obtain ⟨hx0,hx1⟩:=hx0
  have E2:Hid (blen zs=(t:Int)*64+Lib.bitLen x.toNat):=by rw [Hid,X.out];exact E.out
  obtain ⟨l,hl⟩:∃l,Lib.bitLen x.toNat=l:=⟨_,rfl⟩
  have hl64:l≤64:=by rw [←hl];exact bitLen_small _ (by omega)
  have hl64':(l:Int)≤64:=by omega
  have L64:=len64 x w hx0 hx1
  rw [hl] at L64 E2
  have HT:=hid T1
  have HL:=hid L64
  have ht44:(t:Int)<17592186044416:=by omega
  clear T1 L64 hl E X h0 ht tl a1 a2 a4 a5 L
  go_enter Tryz.func59,Tryz.ntmps59
  go_wp2_with fail
  refine HT.out.mono ?_
  rintro e w' ⟨rfl,rfl⟩
  go_wp2_with fail
  refine HL.out.mono ?_
  rintro e w' ⟨rfl,rfl⟩
  go_wp2_with fail
  go_ret
  exact ⟨retI E2.out.symm,rfl⟩
end Go.Proofs.YtbdhlfklcdegdaaGreatDoor

namespace Go.Proofs.YtbdhlfklcdegdaaGreatDoor
open Go.RowKit Go.Deep
theorem chain {B:Nat} {w w1 w2:World} (h:Below B w w1) (k:Below w1.heap.size w1 w2) (hB:B≤w.heap.size):Below B w w2:=h.trans (k.mono (by have:=h.size;omega))
theorem Arg.tl {w:World} {p:Option Addr} {n cap:Nat} {zs:List Int} (h:Arg w p n cap zs):Nm.tsize zs≤n:=by have:=Nm.tsize_le zs;have:=h.1;omega
theorem Ans.len {B:Nat} {w:World} {p:Option Addr} {ys zs:List Int} {n:Int} (h:Ans B w p ys n) (hz:Nm.Limbs zs) (hv:n=Nm.val zs):ys.length=Nm.tsize zs:=by
 rw [←h.2.2.1]
 exact Nm.tsize_congr h.2.1 hz (h.2.2.2.1.trans hv)
end Go.Proofs.YtbdhlfklcdegdaaGreatDoor

namespace Go.Proofs.YtbdhlfklcdegdaaGreatDoor
open Go.RowKit Go.Deep
theorem blen_is (zs:List Int) (hz:Nm.Limbs zs):∃L:Nat,blen zs=(L:Int)∧Nm.BLen (Nm.val zs) L∧L≤64*Nm.tsize zs∧(0<Nm.tsize zs→64*Nm.tsize zs<L+64):=by
 by_cases h0:Nm.tsize zs=0
 ·have hv:=(Nm.tsize_zero_iff hz).1 h0
  exact ⟨0,by rw [blen,if_pos h0];rfl,⟨by rw [hv];decide,fun _=>rfl,fun h=>by omega⟩,by omega,fun h=>by omega⟩
 ·obtain ⟨t,ht⟩:∃t,Nm.tsize zs=t+1:=⟨Nm.tsize zs - 1,by omega⟩
  have hx:=hz.at t
  have hx0:=Nm.tsize_top zs (by omega)
  rw [show Nm.tsize zs - 1=t by omega] at hx0
  obtain ⟨n,hn⟩:=Int.eq_ofNat_of_zero_le hx.1
  have hb:=Lib.bitLenAux_bounds 64 n (by simpa using (show n<18446744073709551616 by omega)) (by omega)
  rw [show Lib.bitLenAux 64 n=Lib.bitLen n from rfl] at hb
  have hs:=bitLen_small n (by omega)
  obtain ⟨l,hl⟩:∃l,Lib.bitLen n=l:=⟨_,rfl⟩
  rw [hl] at hb hs
  have e1:((2^(l - 1):Nat):Int)=(2:Int)^(l - 1):=by simp
  have e2:((2^l:Nat):Int)=(2:Int)^l:=by simp
  refine ⟨64*t+l,?_,Nm.blen_at zs t l hz ht hb.1 (by omega) (by omega),by omega,fun _=>by omega⟩
  rw [blen,if_neg h0,show Nm.tsize zs - 1=t by omega,hn,Int.toNat_natCast,hl,ht]
  omega
end Go.Proofs.YtbdhlfklcdegdaaGreatDoor

namespace Go.Proofs.YtbdhlfklcdegdaaGreatDoor
open Go.RowKit Go.Deep
def toU (zs:List Int):Int:=if Nm.tsize zs=1 then zs.getD 0 0 else 0
theorem ret_to {a b:Int} {c d:Bool} (h:a=b) (k:c=d):Ending.returned (.tuple #[.int .u64 a,.bool c])=.returned (.tuple #[.int .u64 b,.bool d]):=by rw [h,k]
theorem toUint_any (p:Option Addr) (n cap:Nat) (zs:List Int) (w:World) (ha:Arg w p n cap zs):
  Calls Tryz.prog 156 #[.slice p n cap] w fun e w'=>e=.returned (.tuple #[.int .u64 (toU zs),.bool (decide (Nm.tsize zs≤1))])∧w'=w:=by
 obtain ⟨a1,a2,a3,a4,a5⟩:=ha
 have tl:=Nm.tsize_le zs
 have S1:=trimmed_any p n cap zs w a1 a2 (by omega) a4
 rcases (show Nm.tsize zs=0∨Nm.tsize zs=1∨1<Nm.tsize zs by omega) with h | h | h
 ·have E:Hid (0=toU zs∧true=decide (Nm.tsize zs≤1)):=by simp [Hid,toU,h]
  rw [h] at S1
  have HS:=hid S1
  clear S1 h
  go_enter Tryz.func156,Tryz.ntmps156
  go_wp2_with fail
  refine HS.out.mono ?_
  rintro e w' ⟨rfl,rfl⟩
  go_wp2
  go_ret2
  exact ⟨ret_to E.out.1 E.out.2,rfl⟩
 ·have E:Hid (zs.getD 0 0=toU zs∧true=decide (Nm.tsize zs≤1)):=by simp [Hid,toU,h]
  obtain ⟨b,off,rfl,hbw,HC⟩:=a4.at (by omega)
  have hc:=HC.out 0 (by omega)
  rw [Nat.add_zero] at hc
  rw [h] at S1
  have HS:=hid S1
  clear S1 h
  go_enter Tryz.func156,Tryz.ntmps156
  go_wp2_with fail
  refine HS.out.mono ?_
  rintro e w' ⟨rfl,rfl⟩
  go_wp2
  go_ret2
  exact ⟨ret_to E.out.1 E.out.2,rfl⟩
 ·have E:Hid (0=toU zs∧false=decide (Nm.tsize zs≤1)):=by
   refine ⟨?_,?_⟩
   ·rw [toU,if_neg (by omega)]
   ·simp;omega
  have h1:((Nm.tsize zs:Int) == 0)=false:=by rw [beq_eq_false_iff_ne];omega
  have h2:((Nm.tsize zs:Int) == 1)=false:=by rw [beq_eq_false_iff_ne];omega
  have HS:=hid S1
  clear S1 h
  go_enter Tryz.func156,Tryz.ntmps156
  go_wp2_with fail
  refine HS.out.mono ?_
  rintro e w' ⟨rfl,rfl⟩
  go_wp2
  go_ret2
  exact ⟨ret_to E.out.1 E.out.2,rfl⟩
theorem toU_val {zs:List Int} (hl:Nm.Limbs zs) (hv:Nm.val zs<18446744073709551616):toU zs=Nm.val zs:=by
 have h1:Nm.tsize zs≤1:=(Nm.tsize_le_iff hl 1).2 (by simpa [Nm.pw] using hv)
 by_cases h:Nm.tsize zs=1
 ·rw [toU,if_pos h,←Nm.val_trim zs,Nm.trim,h]
  cases zs with
  | nil=>simp [Nm.val]
  | cons z zs=>simp [Nm.val]
 ·have h0:Nm.tsize zs=0:=by omega
  rw [toU,if_neg h,←Nm.val_trim zs,Nm.trim,h0]
  simp [Nm.val]
end Go.Proofs.YtbdhlfklcdegdaaGreatDoor

namespace Go.Proofs.YtbdhlfklcdegdaaGreatDoor
open Go.RowKit Go.Deep
set_option maxRecDepth 100000 in
set_option maxHeartbeats 4000000 in
theorem spread_zero (B:Int) (W g o cap cp n c:Nat) (p pm:Option Addr) (za ds:List Int) (V:Int) (w:World) (h2:2≤B) (h36:B≤36) (hW:W≤63) (hd:OwnB w g ds) (hol:o+W≤ds.length) (ha:Arg w p n c za) (hV:Nm.val za=V) (hV1:V<18446744073709551616):
  Calls Tryz.prog 305 #[.slice (some ⟨g,o,none⟩) W cap,.slice p n c,.slice pm 0 cp,.int .u64 B] w fun e w'=>e=.returned (.tuple #[])∧OwnB w' g (put ds o (Dn.dg B W V))∧Only g w w':=by
 have hB0:(B == 0)=false:=by rw [beq_eq_false_iff_ne];omega
 have hV0:0≤V:=by rw [←hV];exact (Nm.val_bd za ha.2.2.2.2).1
 have TU:Hid (Calls Tryz.prog 156 #[.slice p n c] w fun e w'=>e=.returned (.tuple #[.int .u64 V,.bool (decide (Nm.tsize za≤1))])∧w'=w):=by
  have:=toUint_any p n c za w ha
  rw [toU_val ha.2.2.2.2 (by rw [hV];exact hV1),hV] at this
  exact this
 have hWi:(W:Int)≤63:=by omega
 have OB:=hid hd
 have HOL:=hid hol
 clear ha hV hd hol
 go_enter Tryz.func305,Tryz.ntmps305
 go_wp2_with fail
 refine TU.out.mono ?_
 rintro e w' ⟨rfl,rfl⟩
 clear TU
 go_wp2_with fail
 go_loopw [8,10] (fun a i wr=>∃(j:Nat) (N:Int),a=.int .u64 N∧i=.int .i64 ((j:Int) - 1)∧j≤W∧0≤N∧N<18446744073709551616∧Hid (N=V/B^(W - j)∧OwnB wr g (put ds (o+j) (Dn.dg B (W - j) V))∧Only g w' wr)) (fun _ i _=>(intOf i+1).toNat)
 case atStart=>
  refine ⟨W,V,rfl,rfl,Nat.le_refl _,hV0,hV1,?_,?_,Only.refl _ _⟩
  ·rw [Nat.sub_self,Int.pow_zero,Int.ediv_one]
  ·rw [Nat.sub_self,Dn.dg,put_nil]
   exact OB.out
 case round=>
  obtain ⟨j,N,rfl,rfl,hj,hN0,hN1,I⟩:=hrel
  cases j with
  | zero=>
   have F:Hid (OwnB wr g (put ds o (Dn.dg B W V))∧Only g w' wr):=⟨I.out.2.1,I.out.2.2⟩
   clear I
   go_wp2_with fail
   (try simp only [Exit.inBlock,Exit.then])
   refine bodyPost_ret (results_none rfl _ _ _) rfl ?_
   exact ⟨rfl,F.out⟩
  | succ u=>
   rw [show ((u+1:Nat):Int) - 1=(u:Int) by omega]
   have hu:(u:Int)<(W:Int):=by omega
   have hB1:0<B:=by omega
   obtain ⟨d,hd⟩:∃d,N%B=d:=⟨_,rfl⟩
   obtain ⟨M,hM⟩:∃M,N/B=M:=⟨_,rfl⟩
   have hd0:0≤d:=by rw [←hd];exact Int.emod_nonneg _ (by omega)
   have hd1:d<36:=by have:=Int.emod_lt_of_pos N hB1;omega
   have hM0:0≤M:=by rw [←hM];exact Int.ediv_nonneg hN0 (by omega)
   have hM1:M<18446744073709551616:=by have:=Int.ediv_le_self B hN0;omega
   have hlen:(put ds (o+(u+1)) (Dn.dg B (W - (u+1)) V)).length=ds.length:=put_length _ _ _ (by rw [Dn.dg_length];have:=HOL.out;omega)
   have ST:Hid (∀wq,Below wr.heap.size wr wq→OwnB (wq.setCell ⟨g,o+u,none⟩ (.int .u8 d)) g (put ds (o+u) (Dn.dg B (W - u) V))∧Only g w' (wq.setCell ⟨g,o+u,none⟩ (.int .u8 d))):=by
    intro wq hb
    have h1:=(I.out.2.1.below hb I.out.2.1.lt).set (o+u) d
    rw [show o+(u+1)=o+u+1 by omega,put_head _ _ _ _ (by rw [Dn.dg_length];have:=HOL.out;omega)] at h1
    have e1:d::Dn.dg B (W - (u+1)) V=Dn.dg B (W - u) V:=by
     rw [show W - u=W - (u+1)+1 by omega,Dn.dg_head hB1,←I.out.1,hd,Dn.dg_mod hB1]
    rw [e1] at h1
    exact ⟨h1,(I.out.2.2.trans (Only.of_below hb)).trans (Only.set _ _)⟩
   have EM:Hid (M=V/B^(W - u)):=by
    show _=_
    rw [←hM,I.out.1,show W - u=W - (u+1)+1 by omega,Int.pow_succ,Int.ediv_ediv_of_nonneg (Int.le_of_lt (Int.pow_pos hB1))]
   obtain ⟨y,hy⟩:∃y,wr.cell? ⟨g,o+u,none⟩=some (.int .u8 y):=⟨_,I.out.2.1.cell (o+u) (by rw [hlen];have:=HOL.out;omega)⟩
   have hfr:=I.out.2.1.free (o+u)
   clear I hlen
   go_wp2_with fail
   go_region
   all_goals
    go_wp2
    go_roundw
    case rel=>exact ⟨u,M,by first | rfl | rw [hM],by go_num,by omega,hM0,hM1,EM.out,ST.out _ (below_drewN (Below.refl _ _) _)⟩
    case measure=>simp [intOf]
end Go.Proofs.YtbdhlfklcdegdaaGreatDoor

namespace Go.Proofs.YtbdhlfklcdegdaaGreatDoor
open Go.RowKit Go.Deep
def sgn (b:Bool):Int:=if b then 1 else -1
theorem sign_any (b:Bool) (w:World):Calls Tryz.prog 321 #[.bool b] w fun e w'=>e=.returned (.int .i64 (sgn b))∧w'=w:=by
 cases b
 ·go_enter Tryz.func321,Tryz.ntmps321
  go_wp2
  go_ret
  exact ⟨rfl,rfl⟩
 ·go_enter Tryz.func321,Tryz.ntmps321
  go_wp2
  go_ret
  exact ⟨rfl,rfl⟩
theorem cmp_at {zs ys:List Int} (hz:Nm.Limbs zs) (hy:Nm.Limbs ys) (hl:(Nm.trim zs).length=(Nm.trim ys).length) (t:Nat) (ht:t<(Nm.trim zs).length) (he:∀i,t+1≤i→(Nm.trim zs).getD i 0=(Nm.trim ys).getD i 0) {x y:Int}
  (hx:x=(Nm.trim zs).getD t 0) (hy':y=(Nm.trim ys).getD t 0) (hxy:x≠y):sgn (decide (y<x))=cmpI (Nm.val zs) (Nm.val ys):=by
 have hd:=Nm.drop_eq_of_getD hl (t+1) he
 rw [←Nm.val_trim zs,←Nm.val_trim ys]
 by_cases h:y<x
 ·rw [cmpI_gt (Nm.val_lt_at hy.trim hz.trim t (by omega) hl.symm (by rw [←hx,←hy'];exact h) hd.symm)]
  simp [sgn,h]
 ·rw [cmpI_lt (Nm.val_lt_at hz.trim hy.trim t ht hl (by rw [←hx,←hy'];omega) hd)]
  simp [sgn,h]
set_option maxHeartbeats 1000000 in
theorem cmp_any (p q:Option Addr) (n cap m cap':Nat) (zs ys:List Int) (w:World) (ha:Arg w p n cap zs) (hb:Arg w q m cap' ys):
  Calls Tryz.prog 312 #[.slice p n cap,.slice q m cap'] w fun e w'=>e=.returned (.int .i64 (cmpI (Nm.val zs) (Nm.val ys)))∧Below w.heap.size w w':=by
 obtain ⟨a1,a2,a3,a4,a5⟩:=ha
 obtain ⟨b1,b2,b3,b4,b5⟩:=hb
 have tl:=Nm.tsize_le zs
 have tl':=Nm.tsize_le ys
 by_cases h1:Nm.tsize zs<Nm.tsize ys
 ·have E:=hid (cmpI_lt (val_lt_of_tsize a5 b5 h1))
  have E':Hid (sgn (decide (Nm.tsize ys<Nm.tsize zs))=-1):=by simp [Hid,sgn];omega
  have h1':((Nm.tsize zs:Int) != (Nm.tsize ys:Int))=true:=by rw [bne_iff_ne];omega
  go_enter Tryz.func312,Tryz.ntmps312
  go_wp2_with fail
  refine (trimmed_any p n cap zs _ a1 a2 (by omega) a4).mono ?_
  rintro e w' ⟨rfl,rfl⟩
  go_wp2_with fail
  refine (trimmed_any q m cap' ys _ b1 b2 (by omega) b4).mono ?_
  rintro e w' ⟨rfl,rfl⟩
  go_wp2_with fail
  refine (sign_any _ _).mono ?_
  rintro e w' ⟨rfl,rfl⟩
  go_wp2
  go_ret
  exact ⟨ret_i64 (by rw [E.out];first | exact E'.out | simp [sgn]),Below.refl _ _⟩
 by_cases h2:Nm.tsize ys<Nm.tsize zs
 ·have E:=hid (cmpI_gt (val_lt_of_tsize b5 a5 h2))
  have E':Hid (sgn (decide (Nm.tsize ys<Nm.tsize zs))=1):=by simp [Hid,sgn,h2]
  have h1':((Nm.tsize zs:Int) != (Nm.tsize ys:Int))=true:=by rw [bne_iff_ne];omega
  go_enter Tryz.func312,Tryz.ntmps312
  go_wp2_with fail
  refine (trimmed_any p n cap zs _ a1 a2 (by omega) a4).mono ?_
  rintro e w' ⟨rfl,rfl⟩
  go_wp2_with fail
  refine (trimmed_any q m cap' ys _ b1 b2 (by omega) b4).mono ?_
  rintro e w' ⟨rfl,rfl⟩
  go_wp2_with fail
  refine (sign_any _ _).mono ?_
  rintro e w' ⟨rfl,rfl⟩
  go_wp2
  go_ret
  exact ⟨ret_i64 (by rw [E.out];first | exact E'.out | simp [sgn]),Below.refl _ _⟩
 obtain ⟨N,HN⟩:∃N,Hid (Nm.tsize zs=N):=⟨_,rfl⟩
 have HN':Hid (Nm.tsize ys=N):=by have:=HN.out;exact (show Nm.tsize ys=N by omega)
 have T1:=trimmed_any p n cap zs w a1 a2 (by omega) a4
 have T2:=trimmed_any q m cap' ys w b1 b2 (by omega) b4
 rw [HN.out] at T1
 rw [HN'.out] at T2
 have hN:N≤17592186044416:=by have:=HN.out;omega
 have L1:=hid (Nm.trim_length zs)
 have L2:=hid (Nm.trim_length ys)
 clear h1 h2 tl tl'
 have fin:Nm.trim zs=Nm.trim ys→cmpI (Nm.val zs) (Nm.val ys)=0:=fun h=>cmpI_eq (by rw [←Nm.val_trim zs,←Nm.val_trim ys,h])
 have FIN:=hid fin
 clear fin
 by_cases h0:N=0
 ·have HT1:=hid T1
  have HT2:=hid T2
  clear T1 T2
  subst h0
  go_enter Tryz.func312,Tryz.ntmps312
  go_wp2_with fail
  refine HT1.out.mono ?_
  rintro e w' ⟨rfl,rfl⟩
  go_wp2_with fail
  refine HT2.out.mono ?_
  rintro e w' ⟨rfl,rfl⟩
  go_wp2_with fail
  refine wp_loop_rounds 1 ?_
  rw [rounds_succ]
  go_wp2
  go_ret
  exact ⟨ret_i64 (FIN.out (by rw [List.eq_nil_of_length_eq_zero (L1.out.trans HN.out),List.eq_nil_of_length_eq_zero (L2.out.trans HN'.out)])).symm,Below.refl _ _⟩
 ·obtain ⟨b,off,rfl,hbw,HC⟩:=a4.trim.at (by have:=L1.out;have:=HN.out;omega)
  obtain ⟨b',off',rfl,hbw',HC'⟩:=b4.trim.at (by have:=L2.out;have:=HN'.out;omega)
  have HT1:=hid T1
  have HT2:=hid T2
  clear T1 T2
  go_enter Tryz.func312,Tryz.ntmps312
  go_wp2_with fail
  refine HT1.out.mono ?_
  rintro e w' ⟨rfl,rfl⟩
  go_wp2_with fail
  refine HT2.out.mono ?_
  rintro e w' ⟨rfl,rfl⟩
  go_wp2_with fail
  go_loopw [5] (fun i wr=>∃j:Nat,j≤N∧i=.int .i64 ((j:Int) - 1)∧Hid (∀t,j≤t→(Nm.trim zs).getD t 0=(Nm.trim ys).getD t 0)∧Below w'.heap.size w' wr) (fun i _=>(intOf i+1).toNat)
  case atStart=>exact ⟨N,Nat.le_refl _,rfl,fun t ht=>by rw [List.getD,List.getElem?_eq_none (by have:=L1.out;have:=HN.out;omega),List.getD,List.getElem?_eq_none (by have:=L2.out;have:=HN'.out;omega)],Below.refl _ _⟩
  case round=>
   obtain ⟨j,hj,rfl,hE,hB⟩:=hrel
   by_cases hj0:j=0
   ·subst hj0
    have HB:=hid hB
    clear hB
    go_wp2
    go_ret
    refine ⟨ret_i64 (FIN.out ?_).symm,HB.out⟩
    have e:=Nm.drop_eq_of_getD (by rw [L1.out,L2.out,HN.out,HN'.out]) 0 hE.out
    simpa using e
   ·obtain ⟨t,rfl⟩:∃t,j=t+1:=⟨j - 1,by omega⟩
    obtain ⟨x,hx,X⟩:∃x,wr.cell? ⟨b,off+t,none⟩=some (.int .u64 x)∧Hid (x=(Nm.trim zs).getD t 0):=⟨_,(hB.cell (p:=⟨b,off+t,none⟩) hbw).trans (HC.out t (by have:=L1.out;have:=HN.out;omega)),rfl⟩
    obtain ⟨y,hy,Y⟩:∃y,wr.cell? ⟨b',off'+t,none⟩=some (.int .u64 y)∧Hid (y=(Nm.trim ys).getD t 0):=⟨_,(hB.cell (p:=⟨b',off'+t,none⟩) hbw').trans (HC'.out t (by have:=L2.out;have:=HN'.out;omega)),rfl⟩
    have HB:=hid hB
    clear hB
    have htN:(t:Int)<(N:Int):=by omega
    by_cases hxy:x=y
    ·have hxy':(x != y)=false:=by simp [hxy]
     have HXY:=hid hxy
     clear hxy
     go_wp2_with fail
     go_quiet (fail)
     go_wp2
     go_roundw
     case rel=>
      refine ⟨t,by omega,by go_num,fun i hi=>?_,below_drewN HB.out _⟩
      by_cases e:i=t
      ·subst e;rw [←X.out,←Y.out];exact HXY.out
      ·exact hE.out i (by omega)
     case measure=>simp [intOf]
    ·have hxy':(x != y)=true:=by simp [hxy]
     have HXY:=hid hxy
     clear hxy
     go_wp2_with fail
     go_quiet (fail)
     have hx2:(wr.drewN nq).cell? ⟨b,off+t,none⟩=some (.int .u64 x):=hx
     have hy2:(wr.drewN nq).cell? ⟨b',off'+t,none⟩=some (.int .u64 y):=hy
     have HB2:=hid (below_drewN HB.out nq)
     clear hx hy HB
     generalize wr.drewN nq=wq at *
     go_wp2_with fail
     go_quiet ((go_at_call 321;exact Calls.quiet_of_same (sign_any _ _)))
     go_wp2
     go_ret
     exact ⟨ret_i64 (cmp_at a5 b5 (by rw [L1.out,L2.out,HN.out,HN'.out]) t (by rw [L1.out,HN.out];omega) hE.out X.out Y.out HXY.out),below_drewN HB2.out _⟩
end Go.Proofs.YtbdhlfklcdegdaaGreatDoor

namespace Go.Proofs.YtbdhlfklcdegdaaGreatDoor
open Go.RowKit Go.Deep
theorem cmp_is (c:Int) (p q:Option Addr) (n cap m cap':Nat) (zs ys:List Int) (w:World) (ha:Arg w p n cap zs) (hb:Arg w q m cap' ys) (hc:cmpI (Nm.val zs) (Nm.val ys)=c):
  Calls Tryz.prog 312 #[.slice p n cap,.slice q m cap'] w fun e w'=>e=.returned (.int .i64 c)∧Below w.heap.size w w':=by
 rw [←hc]
 exact cmp_any p q n cap m cap' zs ys w ha hb
end Go.Proofs.YtbdhlfklcdegdaaGreatDoor

namespace Go.Proofs.YtbdhlfklcdegdaaGreatDoor
open Go.RowKit Go.Deep
theorem limbs_any (p:Option Addr) (n cap:Nat) (zs:List Int) (w:World) (ha:Arg w p n cap zs):
  Calls Tryz.prog 307 #[.slice p n cap] w fun e w'=>e=.returned (.int .i64 (Nm.tsize zs:Int))∧w'=w:=by
 obtain ⟨L,h1,_,h3,h4⟩:=blen_is zs ha.2.2.2.2
 have tl:=Nm.tsize_le zs
 have hn:=ha.1
 have hc:=ha.2.2.1
 have hc':=ha.2.1
 have H:=bitLen_any p n cap zs w ha
 rw [h1] at H
 have HB:=hid H
 obtain ⟨N,HN⟩:∃N,Hid (Nm.tsize zs=N):=⟨_,rfl⟩
 rw [HN.out] at h3 h4 ⊢
 have hL:(L:Int)≤1125899906842624000:=by have:=HN.out;omega
 have hL0:(0:Int)≤(L:Int):=by omega
 have E:Hid (((L:Int)+64 - 1)/64=(N:Int)):=by show _=_;omega
 have E2:Hid (((L:Int)+64 - 1).tdiv 64=(N:Int)):=by show _=_;rw [Int.tdiv_eq_ediv_of_nonneg (by omega)];exact E.out
 clear h1 h3 h4 H hn hc hc' tl ha
 go_enter Tryz.func307,Tryz.ntmps307
 go_wp2_with fail
 refine HB.out.mono ?_
 rintro e w' ⟨rfl,rfl⟩
 go_wp2_with fail
 go_ret
 exact ⟨ret_i64 (by first | exact E.out | exact E2.out),rfl⟩
end Go.Proofs.YtbdhlfklcdegdaaGreatDoor

namespace Go.Proofs.YtbdhlfklcdegdaaGreatDoor
open Go.RowKit Go.Deep
theorem ans_none (B:Nat) (w:World) (p:Option Addr) (h:∀a,p=some a→B≤a.block):Ans B w p [] 0:=
 ⟨Lies.nil _ _,Nm.Limbs.nil,rfl,rfl,h⟩
theorem limb_one {x:Int} (h:0≤x∧x<18446744073709551616):Nm.Limbs [x]:=Nm.Limbs.mk h.1 h.2 Nm.Limbs.nil
theorem fromUint_any (x:Int) (w:World) (h0:0≤x) (h1:x<18446744073709551616):
  Calls Tryz.prog 254 #[.int .u64 x] w fun e w'=>∃r os,e=.returned (.slice r (List.length os) (List.length os))∧Ans w.heap.size w' r os x∧Below w.heap.size w w':=by
 by_cases hx:x=0
 ·subst hx
  go_enter Tryz.func254,Tryz.ntmps254
  go_wp2
  go_ret
  exact ⟨none,[],rfl,ans_none _ _ _ (fun a h=>by cases h),Below.refl _ _⟩
 ·have hx':(x == 0)=false:=by rw [beq_eq_false_iff_ne];exact hx
  have D:Hid (Below w.heap.size w (w.alloc (.cells #[.int .u64 x] 24))):=(Below.refl _ _).alloc (Nat.le_refl _) _
  have A:Hid (Ans w.heap.size (w.alloc (.cells #[.int .u64 x] 24)) (some ⟨w.heap.size,0,none⟩) [x] x):=⟨(Own.alloc w [x]).lies,limb_one ⟨h0,h1⟩,by simp [Nm.tsize,hx],by simp [Nm.val],fun a h=>by cases h;exact Nat.le_refl _⟩
  go_enter Tryz.func254,Tryz.ntmps254
  go_wp2
  go_ret
  exact ⟨some ⟨w.heap.size,0,none⟩,[x],rfl,A.out,D.out⟩
end Go.Proofs.YtbdhlfklcdegdaaGreatDoor

namespace Go.Proofs.YtbdhlfklcdegdaaGreatDoor
open Go.RowKit Go.Deep
theorem few64 {B:Int} {W:Nat} (hB:2≤B) (h:B^W<18446744073709551616):W≤63:=by
 have:=Ln.small (A:=B^W) (L:=64) hB (Int.le_refl _) (by rw [show (2:Int)^64=18446744073709551616 by decide];exact h)
 omega
set_option maxRecDepth 100000 in
set_option maxHeartbeats 1000000 in
theorem group_any (B:Int) (w:World) (h2:2≤B) (h36:B≤36):
  Calls Tryz.prog 153 #[.int .u64 B] w fun e w'=>(∃(W:Nat) (P:Int),e=.returned (.tuple #[.int .u64 P,.int .i64 (W:Int)])∧P=B^W∧1≤W∧W≤63∧P<18446744073709551616)∧w'=w:=by
 have hB0:(B == 0)=false:=by rw [beq_eq_false_iff_ne];omega
 go_enter Tryz.func153,Tryz.ntmps153
 go_wp2_with fail
 go_loop [4,5] (fun p c=>∃(P:Int) (W:Nat),p=.int .u64 P∧c=.int .i64 (W:Int)∧1≤P∧P≤18446744073709551615∧Hid (P=B^W∧1≤W∧W≤63)) (fun _ c=>64 - (intOf c).toNat)
 case atStart=>exact ⟨B,1,rfl,rfl,by omega,by omega,by rw [Int.pow_succ,Int.pow_zero,Int.one_mul],by omega,by omega⟩
 case round=>
  obtain ⟨P,W,rfl,rfl,hP1,hP2,F⟩:=hrel
  have hW:(W:Int)≤63:=by have:=F.out.2.2;omega
  by_cases hle:P≤18446744073709551615/B
  ·have hm:P*B≤18446744073709551615:=(Int.le_ediv_iff_mul_le (by omega)).1 hle
   have hm0:0≤P*B:=Int.mul_nonneg (by omega) (by omega)
   have hm1:1≤P*B:=by have:=Int.mul_le_mul (a:=1) (b:=1) hP1 (show 1≤B by omega) (by omega) (by omega);omega
   have q1:IntKind.u64.wrap (P*B)=P*B:=by rw [IntKind.wrap_u64];omega
   have W2:Hid (W+1≤63):=few64 h2 (by rw [Int.pow_succ,←F.out.1];omega)
   have HM:=hid hm
   have HM1:=hid hm1
   clear hm hm0 hm1
   go_wp2_with fail
   go_round
   case rel=>exact ⟨P*B,W+1,rfl,by go_num,HM1.out,HM.out,by rw [Int.pow_succ,←F.out.1],by omega,W2.out⟩
   case measure=>simp [intOf];have:=F.out.2;omega
  ·go_wp2_with fail
   go_ret2
   exact ⟨⟨W,P,rfl,F.out.1,F.out.2.1,F.out.2.2,by omega⟩,rfl⟩
end Go.Proofs.YtbdhlfklcdegdaaGreatDoor

namespace Go.Proofs.YtbdhlfklcdegdaaGreatDoor
open Go.RowKit Go.Deep
structure Lead (ds:List Int) (j:Nat):Prop where
 zero:∀i,i<j→ds.getD i 0=0
 next:ds.getD j 0≠0
theorem Lead.strip:∀{ds:List Int} {j:Nat},Lead ds j→Dn.strip ds=ds.drop j
 | [],j,h=>absurd (by simp) h.next
 | d::ds,0,h=>by
  have:=h.next
  simp at this
  simp [Dn.strip,this]
 | d::ds,j+1,h=>by
  have h0:=h.zero 0 (by omega)
  simp at h0
  subst h0
  have ih:Lead ds j:=⟨fun i hi=>by have:=h.zero (i+1) (by omega);simpa using this,by have:=h.next;simpa using this⟩
  have:=Lead.strip ih
  simp only [Dn.strip,List.dropWhile_cons,decide_true,if_true,List.drop_succ_cons] at this ⊢
  exact this
theorem Lead.lt {ds:List Int} {j:Nat} (h:Lead ds j):j<ds.length:=by
 rcases Nat.lt_or_ge j ds.length with c | c
 ·exact c
 ·exact absurd (by simp [List.getD,List.getElem?_eq_none c]) h.next
theorem Lead.ex:∀{ds:List Int},Dn.strip ds≠[]→∃j,Lead ds j
 | [],h=>absurd rfl h
 | d::ds,h=>by
  by_cases c:d=0
  ·subst c
   have:Dn.strip ds≠[]:=by simpa [Dn.strip] using h
   obtain ⟨j,hj⟩:=Lead.ex this
   refine ⟨j+1,fun i hi=>?_,by simpa using hj.next⟩
   cases i with
   | zero=>simp
   | succ i=>simpa using hj.zero i (by omega)
  ·exact ⟨0,fun i hi=>by omega,by simpa using c⟩
set_option maxRecDepth 100000 in
set_option maxHeartbeats 1000000 in
theorem btrim1_any (g n J:Nat) (ds:List Int) (w:World) (hd:OwnB w g ds) (hn:ds.length=n) (hJ:Lead ds J):
  Calls Tryz.prog 314 #[.slice (some ⟨g,0,none⟩) n n,.int .u8 0] w fun e w'=>e=.returned (.slice (some ⟨g,J,none⟩) (n - J) (n - J))∧w'=w:=by
 have HJ:=hid hJ
 have HL:Hid (J<n):=by show _<_;have:=hJ.lt;omega
 have HO:=hid hd
 have HN:=hid hn
 clear hd hn hJ
 go_enter Tryz.func314,Tryz.ntmps314
 go_wp2_with fail
 go_loop [0] (fun s=>∃j m:Nat,s=.slice (some ⟨g,j,none⟩) m m∧j≤J∧Hid (j+m=n)) (fun s=>match s with | .slice _ m _=>m | _=>0)
 case atStart=>exact ⟨0,n,rfl,Nat.zero_le _,by show _=_;omega⟩
 case round=>
  obtain ⟨j,m,rfl,hj,E⟩:=hrel
  have hm:0<m:=by have:=E.out;have:=HL.out;omega
  have hmi:(0:Int)<(m:Int):=by omega
  have hmz:((m:Int) == 0)=false:=by rw [beq_eq_false_iff_ne];omega
  have hm1:1≤m:=by omega
  obtain ⟨x,hx,X⟩:∃x,w.cell? ⟨g,j,none⟩=some (.int .u8 x)∧Hid (x=ds.getD j 0):=⟨_,HO.out.cell j (by have:=E.out;have:=HN.out;omega),rfl⟩
  by_cases hlt:j<J
  ·have hx0:x=0:=by rw [X.out];exact HJ.out.zero j hlt
   subst hx0
   go_wp2_with fail
   go_round
   case rel=>exact ⟨j+1,m - 1,by rw [if_neg (by have:=E.out;have:=HL.out;omega)],by omega,by show _=_;have:=E.out;omega⟩
   case measure=>simp;omega
  ·obtain rfl:j=J:=by omega
   have hx0:(x == 0)=false:=by rw [beq_eq_false_iff_ne,X.out];exact HJ.out.next
   obtain rfl:m=n - j:=by have:=E.out;omega
   go_wp2_with fail
   go_ret
   exact ⟨rfl,rfl⟩
set_option maxRecDepth 100000 in
theorem btrim_any (g n J:Nat) (ds:List Int) (w:World) (hd:OwnB w g ds) (hn:ds.length=n) (hJ:Lead ds J):
  Calls Tryz.prog 306 #[.slice (some ⟨g,0,none⟩) n n,.string ⟨#[0]⟩] w fun e w'=>e=.returned (.slice (some ⟨g,J,none⟩) (n - J) (n - J))∧w'=w:=by
 have T:=hid (btrim1_any g n J ds w hd hn hJ)
 have hz:((n:Int) == 0)=false:=by rw [beq_eq_false_iff_ne];have:=hJ.lt;omega
 clear hd hn hJ
 go_enter Tryz.func306,Tryz.ntmps306
 go_wp2_with fail
 refine T.out.mono ?_
 rintro e w' ⟨rfl,rfl⟩
 go_wp2_with fail
 go_ret
 exact ⟨rfl,rfl⟩
end Go.Proofs.YtbdhlfklcdegdaaGreatDoor

namespace Go.Proofs.YtbdhlfklcdegdaaGreatDoor
open Go.RowKit Go.Deep
def FTail (xs:List Int) (e:Ending):Prop:=∃s' k,e=.returned (.string s')∧Str s' (xs.take k)∧k≤xs.length∧(∀i,k≤i→i<xs.length→xs.getD i 0=48)∧(0<k→xs.getD (k - 1) 0≠48)
set_option maxRecDepth 100000 in
set_option maxHeartbeats 1000000 in
theorem frtrim_any (s:ByteArray) (xs:List Int) (w:World) (hs:Str s xs) (hn1:xs.length≤562949953421312):
  Calls Tryz.prog 174 #[.string s,.int .u8 48] w fun e w'=>FTail xs e∧w'=w:=by
 have HS:=hid hs
 have HN:=hid hn1
 clear hs hn1
 go_enter Tryz.func174,Tryz.ntmps174
 go_wp2_with fail
 go_loop [0] (fun c=>∃s' m,c=.string s'∧Hid (Str s' (xs.take m)∧m≤xs.length∧s'.size=m∧(∀i,m≤i→i<xs.length→xs.getD i 0=48))) (fun c=>match c with | .string s'=>s'.size | _=>0)
 case atStart=>exact ⟨s,xs.length,rfl,by rw [List.take_length];exact HS.out,Nat.le_refl _,HS.out.size,fun i h1 h2=>by omega⟩
 case round=>
  obtain ⟨s',m,rfl,I⟩:=hrel
  have hsz:s'.size=m:=I.out.2.2.1
  have hmb:(m:Int)≤562949953421312:=by have:=HN.out;have:=I.out.2.1;omega
  by_cases h0:m=0
  ·subst h0
   have F:Hid (FTail xs (.returned (.string s'))):=⟨s',0,rfl,I.out.1,Nat.zero_le _,I.out.2.2.2,fun h=>by omega⟩
   clear I
   go_wp2_with fail
   go_ret
   exact ⟨F.out,rfl⟩
  ·obtain ⟨u,hu⟩:∃u,m=u+1:=⟨m - 1,by omega⟩
   have hmi:(0:Int)<(m:Int):=by omega
   have hmu:(m:Int) - 1=(u:Int):=by omega
   have hum:(u:Int)<(m:Int):=by omega
   obtain ⟨x,X⟩:∃x,Hid (xs.getD u 0=x):=⟨_,rfl⟩
   have hx:∀h:u<s'.size,((s'[u]'h).toNat:Int)=x:=fun h=>by
    rw [I.out.1.at u h,←X.out]
    simp [List.getD,show u<m by omega]
   have HU:=hid hu
   by_cases hd:x=48
   ·subst hd
    have F:Hid (Str (s'.extract 0 u) (xs.take u)∧u≤xs.length∧(s'.extract 0 u).size=u∧(∀i,u≤i→i<xs.length→xs.getD i 0=48)):=by
     have e:=I.out.1.extract 0 u
     rw [List.drop_zero,Nat.sub_zero,List.take_take,show min u m=u by omega] at e
     refine ⟨e,by have:=I.out.2.1;omega,by rw [e.size];have:=I.out.2.1;simp;omega,fun i h1 h2=>?_⟩
     by_cases c:i=u
     ·subst c;exact X.out
     ·exact I.out.2.2.2 i (by omega) h2
    have SZ:Hid ((s'.extract 0 u).size<s'.size):=by show _<_;rw [F.out.2.2.1,hsz];omega
    clear I hu h0
    go_wp2_with fail
    go_round
    case rel=>exact ⟨_,_,rfl,F.out⟩
    case measure=>exact SZ.out
   ·have hd2:(x == 48)=false:=by rw [beq_eq_false_iff_ne];exact hd
    have F:Hid (FTail xs (.returned (.string s'))):=⟨s',m,rfl,I.out.1,I.out.2.1,I.out.2.2.2,fun _=>by rw [show m - 1=u by omega,X.out];exact hd⟩
    clear I hu h0
    go_wp2_with fail
    go_ret
    exact ⟨F.out,rfl⟩
set_option maxRecDepth 100000 in
theorem frtrim0_any (s:ByteArray) (xs:List Int) (w:World) (hs:Str s xs) (hn1:xs.length≤562949953421312):
  Calls Tryz.prog 117 #[.string s,.string ⟨#[48]⟩] w fun e w'=>FTail xs e∧w'=w:=by
 have T:=hid (frtrim_any s xs w hs hn1)
 by_cases h:xs=[]
 ·have F:Hid (FTail xs (.returned (.string s))):=⟨s,0,rfl,by rw [h] at hs ⊢;exact hs,Nat.zero_le _,fun i _ hi=>by rw [h] at hi;simp at hi,fun hlt=>by omega⟩
  have hs0:s=⟨#[]⟩:=hs.inj (by rw [h];rfl)
  subst hs0
  clear hs hn1 h
  go_enter Tryz.func117,Tryz.ntmps117
  go_wp2_with fail
  go_ret
  exact ⟨F.out,rfl⟩
 ·have e1:s.toList≠[]:=by
   intro c
   apply h
   rw [ByteArray.toList_eq] at c
   rw [←hs,c]
   rfl
  have e2:(s.toList == [])=false:=by rw [beq_eq_false_iff_ne];exact e1
  have e3:s.toList.isEmpty=false:=by rw [List.isEmpty_eq_false_iff];exact e1
  clear hs hn1 h
  go_enter Tryz.func117,Tryz.ntmps117
  go_wp2_with fail
  refine T.out.mono ?_
  rintro e w' ⟨h1,rfl⟩
  obtain ⟨s',j,rfl,h2⟩:=h1
  have F:Hid (FTail xs (.returned (.string s'))):=⟨s',j,rfl,h2⟩
  clear h2 T
  go_wp2_with fail
  go_ret
  exact ⟨F.out,rfl⟩
end Go.Proofs.YtbdhlfklcdegdaaGreatDoor

namespace Go.Proofs.YtbdhlfklcdegdaaGreatDoor
open Go.RowKit Go.Deep
def tzRen:Go.Shelf.Ren:=⟨fun _=>57,fun t=>if t=22 then 24 else if t=25 then 133 else if t=54 then 134 else if t=5 then 5 else if t=4 then 4 else if t=0 then 0 else 3,fun _=>0⟩
theorem tzLays:Lays7.n29 Tryz.prog tzRen where
 mixed:=by kernel_rfl
 f29:=by kernel_rfl
 t0:=by kernel_rfl
 a0:=fun _=>by kernel_rfl
 z0:=fun _=>by kernel_rfl
 v0:=fun _=>by kernel_rfl
 i0:=by kernel_rfl
 t3:=by kernel_rfl
 a3:=fun _=>by kernel_rfl
 z3:=fun _=>by kernel_rfl
 v3:=fun _=>by kernel_rfl
 i3:=by kernel_rfl
 t4:=by kernel_rfl
 a4:=fun _=>by kernel_rfl
 z4:=fun _=>by kernel_rfl
 v4:=fun _=>by kernel_rfl
 i4:=by kernel_rfl
 t5:=by kernel_rfl
 a5:=fun _=>by kernel_rfl
 z5:=fun _=>by kernel_rfl
 v5:=fun _=>by kernel_rfl
 i5:=by kernel_rfl
 t22:=by kernel_rfl
 a22:=fun _=>by kernel_rfl
 z22:=fun _=>by kernel_rfl
 v22:=fun _=>by kernel_rfl
 i22:=by kernel_rfl
 t25:=by kernel_rfl
 a25:=fun _=>by kernel_rfl
 z25:=fun _=>by kernel_rfl
 v25:=fun _=>by kernel_rfl
 i25:=by kernel_rfl
 t54:=by kernel_rfl
 a54:=fun _=>by kernel_rfl
 z54:=fun _=>by kernel_rfl
 g1:=by kernel_rfl
def Tab (w:World):Prop:=TabAt 0 Lib.deBruijn64tab w
theorem Tab.below {w w':World} (h:Tab w) (hb:Below w.heap.size w w'):Tab w':=by
 intro j hj
 have hc:=h j hj
 rw [hb.cell (p:=⟨0,j,none⟩) (cell_lt hc)]
 exact hc
theorem tz64 (x:Int) (w:World) (h0:0<x) (h1:x<18446744073709551616) (hT:Tab w):
  Calls Tryz.prog 57 #[.int .u64 x] w fun e w'=>∃(t:Nat) (m:Int),e=.returned (.int .i64 t)∧t≤63∧Hid (x=2^t*(2*m+1))∧w'=w:=by
 obtain ⟨n,rfl⟩:=Int.eq_ofNat_of_zero_le (show 0≤x by omega)
 refine (Any7.bits_TrailingZeros64 tzLays n (by omega) w (fun _=>hT)).mono ?_
 rintro e w' ⟨rfl,rfl⟩
 obtain ⟨m,hm,hlt⟩:=Lib.ctzFrom_spec 64 n (by omega) (by simpa using (show n<18446744073709551616 by omega))
 refine ⟨Lib.ctzFrom 64 n,m,by rw [Lib.ctz,if_neg (by omega)],by omega,?_,rfl⟩
 show (n:Int)=_
 have e:((2^Lib.ctzFrom 64 n*(2*m+1):Nat):Int)=2^Lib.ctzFrom 64 n*(2*(m:Int)+1):=by simp
 rw [←e,←hm]
end Go.Proofs.YtbdhlfklcdegdaaGreatDoor

namespace Go.Proofs.YtbdhlfklcdegdaaGreatDoor
open Go Go.RowKit Go.Deep
structure St (S:World→Prop) (w wx:World):Prop where
 cells:S wx
 bel:Below w.heap.size w wx
def Stays (S:World→Prop):Prop:=∀wx w':World,S wx→Below wx.heap.size wx w'→S w'
theorem St.on {S:World→Prop} {w wx w':World} (h:St S w wx) (k:Stays S) (hB:Below wx.heap.size wx w'):St S w w':=⟨k _ _ h.cells hB,h.bel.trans (hB.mono h.bel.size)⟩
theorem St.drew {S:World→Prop} {w wx:World} (h:St S w wx) (k:Stays S):St S w wx.drew:=h.on k ⟨rfl,rfl,rfl,Nat.le_refl _,fun _ _=>rfl⟩
theorem St.more {S T:World→Prop} {w wx w':World} (h:St S w wx) (k:Stays S) (hB:Below wx.heap.size wx w') (t:T w'):St (fun x=>S x∧T x) w w':=⟨⟨k _ _ h.cells hB,t⟩,h.bel.trans (hB.mono h.bel.size)⟩
theorem St.to {S T:World→Prop} {w wx w':World} (h:St S w wx) (hB:Below wx.heap.size wx w') (t:T w'):St T w w':=⟨t,h.bel.trans (hB.mono h.bel.size)⟩
theorem Stays.cell (a:Addr) (v:Value):Stays (fun w=>w.cell? a=some v):=fun _ _ h hB=>(hB.cell (cell_lt h)).trans h
theorem Stays.and {S T:World→Prop} (h:Stays S) (k:Stays T):Stays (fun w=>S w∧T w):=fun _ _ g hB=>⟨h _ _ g.1 hB,k _ _ g.2 hB⟩
theorem Stays.ans (B:Nat) (p:Option Addr) (os:List Int) (v:Int):Stays (fun w=>Ans B w p os v):=fun _ _ h hB=>h.below hB (Nat.le_refl _)
theorem Stays.arg (p:Option Addr) (n cap:Nat) (os:List Int):Stays (fun w=>Arg w p n cap os):=fun _ _ h hB=>h.below hB (Nat.le_refl _)
theorem Stays.tab:Stays Tab:=fun _ _ h hB=>h.below hB
theorem Stays.bel (w:World):Stays (fun x=>Below w.heap.size w x):=fun _ _ h hB=>h.trans (hB.mono h.size)
theorem state (S:World→Prop) (w:World) (k:Stays S):∃SS:World→Prop,Hid (∀wx w':World,SS wx→Below wx.heap.size wx w'→SS w')∧Hid (∀wx:World,SS wx→S wx)∧Hid (∀wx:World,SS wx→Below w.heap.size w wx)∧Hid (∀wx:World,S wx→Below w.heap.size w wx→SS wx):=
 ⟨St S w,fun _ _ h hB=>h.on k hB,fun _ h=>h.cells,fun _ h=>h.bel,fun _ h b=>⟨h,b⟩⟩
theorem drew_nil (w:World):Below w.heap.size w w.drew:=⟨rfl,rfl,rfl,Nat.le_refl _,fun _ _=>rfl⟩
end Go.Proofs.YtbdhlfklcdegdaaGreatDoor

namespace Go.Proofs.YtbdhlfklcdegdaaGreatDoor
open Go.RowKit Go.Deep
def Bared (xs:List Int) (s':ByteArray) (j:Nat):Prop:=Str s' (xs.drop j)∧j≤xs.length∧(∀i,i<j→xs.getD i 0=48)
def STold (xs:List Int) (e:Ending):Prop:=∃s' j,e=.returned (.string s')∧Bared xs s' j∧(j<xs.length→xs.getD j 0≠48)
set_option maxRecDepth 100000 in
set_option maxHeartbeats 1000000 in
theorem strim1_any (s:ByteArray) (xs:List Int) (w:World) (hs:Str s xs) (hn1:xs.length≤562949953421312):
  Calls Tryz.prog 210 #[.string s,.int .u8 48] w fun e w'=>STold xs e∧w'=w:=by
 have HS:=hid hs
 have HN:=hid hn1
 clear hs hn1
 go_enter Tryz.func210,Tryz.ntmps210
 go_wp2_with fail
 go_loop [0] (fun c=>∃s' j,c=.string s'∧Hid (Bared xs s' j)) (fun c=>match c with | .string s'=>s'.size | _=>0)
 case atStart=>exact ⟨s,0,rfl,HS.out,Nat.zero_le _,fun i hi=>by omega⟩
 case round=>
  obtain ⟨s',j,rfl,I⟩:=hrel
  obtain ⟨m,HM⟩:∃m,Hid (s'.size=m):=⟨_,rfl⟩
  have hsz:s'.size=m:=HM.out
  have hjm:Hid (j+m=xs.length):=by show _=_;have:=I.out.1.size;have:=I.out.2.1;have:=HM.out;simp at *;omega
  have hmb:(m:Int)≤562949953421312:=by have:=HN.out;have:=hjm.out;omega
  by_cases h0:m=0
  ·subst h0
   have F:Hid (STold xs (.returned (.string s'))):=⟨s',j,rfl,I.out,fun h=>by have:=hjm.out;omega⟩
   clear I
   go_wp2_with fail
   go_ret
   exact ⟨F.out,rfl⟩
  ·have hm:0<m:=by omega
   have hmi:(0:Int)<(m:Int):=by omega
   obtain ⟨x,X⟩:∃x,Hid (xs.getD j 0=x):=⟨_,rfl⟩
   have hx:∀h:0<s'.size,((s'[0]'h).toNat:Int)=x:=fun h=>by rw [I.out.1.at 0 h,←X.out];simp [List.getD]
   by_cases hd:x=48
   ·subst hd
    have F:Hid (Bared xs (s'.extract 1 s'.size) (j+1)):=by
     refine ⟨?_,by have:=hjm.out;omega,fun i hi=>?_⟩
     ·have:=I.out.1.extract 1 s'.size
      rw [List.drop_drop,List.take_of_length_le (by have:=hjm.out;have:=HM.out;simp;omega)] at this
      exact this
     ·by_cases e:i=j
      ·subst e;exact X.out
      ·exact I.out.2.2 i (by omega)
    rw [hsz] at F
    have SZ:Hid ((s'.extract 1 m).size<s'.size):=by
     show _<_
     have e1:=F.out.1.size
     have e2:=HM.out
     have e3:=hjm.out
     simp only [List.length_drop] at e1
     omega
    clear I
    go_wp2_with fail
    go_round
    case rel=>exact ⟨_,_,rfl,F.out⟩
    case measure=>exact SZ.out
   ·have hd2:(x == 48)=false:=by rw [beq_eq_false_iff_ne];exact hd
    have F:Hid (STold xs (.returned (.string s'))):=⟨s',j,rfl,I.out,fun _=>by rw [X.out];exact hd⟩
    clear I
    go_wp2_with fail
    go_ret
    exact ⟨F.out,rfl⟩
end Go.Proofs.YtbdhlfklcdegdaaGreatDoor



namespace Go.Proofs.YtbdhlfklcdegdaaGreatDoor
open Go.RowKit Go.Deep Go.Shelf
def cloneRen:Go.Shelf.Ren:=⟨fun _=>92,fun t=>if t=37 then 146 else if t=47 then 178 else if t=5 then 5 else if t=9 then 9 else if t=3 then 3 else t,fun g=>g⟩
theorem cloneLays:LaysPu.n25 Tryz.prog cloneRen where
 mixed:=by kernel_rfl
 f25:=by kernel_rfl
 t0:=by kernel_rfl
 a0:=fun _=>by kernel_rfl
 z0:=fun _=>by kernel_rfl
 v0:=fun _=>by kernel_rfl
 i0:=by kernel_rfl
 t3:=by kernel_rfl
 a3:=fun _=>by kernel_rfl
 z3:=fun _=>by kernel_rfl
 v3:=fun _=>by kernel_rfl
 i3:=by kernel_rfl
 t4:=by kernel_rfl
 a4:=fun _=>by kernel_rfl
 z4:=fun _=>by kernel_rfl
 v4:=fun _=>by kernel_rfl
 i4:=by kernel_rfl
 t5:=by kernel_rfl
 a5:=fun _=>by kernel_rfl
 z5:=fun _=>by kernel_rfl
 v5:=fun _=>by kernel_rfl
 i5:=by kernel_rfl
 t9:=by kernel_rfl
 a9:=fun _=>by kernel_rfl
 z9:=fun _=>by kernel_rfl
 v9:=fun _=>by kernel_rfl
 i9:=by kernel_rfl
 t37:=by kernel_rfl
 a37:=fun _=>by kernel_rfl
 z37:=fun _=>by kernel_rfl
 v37:=fun _=>by kernel_rfl
 i37:=by kernel_rfl
 t47:=by kernel_rfl
 a47:=fun _=>by kernel_rfl
 z47:=fun _=>by kernel_rfl
 v47:=fun _=>by kernel_rfl
 i47:=by kernel_rfl
theorem clone_any (s:ByteArray) (w:World) (hs:s.size≤140737488355328):Calls Tryz.prog 51 #[.string s] w fun e w'=>e=.returned (.string s)∧Below w.heap.size w w':=by
 have C:Hid (Calls Tryz.prog 92 #[.string s] w fun e w'=>e=.returned (.string s)∧Below w.heap.size w w'):=AnyPu.stringslite_Clone cloneLays s w (by omega)
 go_enter Tryz.func51,Tryz.ntmps51
 go_wp2_with fail
 refine C.out.mono ?_
 rintro e w1 ⟨rfl,d1⟩
 have D:=hid d1
 clear d1
 go_wp2_with fail
 go_ret
 exact ⟨rfl,D.out⟩
end Go.Proofs.YtbdhlfklcdegdaaGreatDoor

namespace Go.Proofs.YtbdhlfklcdegdaaGreatDoor
open Go.RowKit Go.Deep
end Go.Proofs.YtbdhlfklcdegdaaGreatDoor

namespace Go.Proofs.YtbdhlfklcdegdaaGreatDoor
open Go.RowKit Go.Deep
namespace Wh
def chk (F W P:Int):Int:=if F<0∨31<F∨W<0∨P < -1 then 1 else if 4096<W∨4096<P then 6 else 0
theorem chk_ok {F W P:Int} (h:chk F W P=0):(0≤F∧F≤31)∧(0≤W∧W≤4096)∧(-1≤P∧P≤4096):=by
 unfold chk at h
 split at h
 ·omega
 ·split at h
  ·omega
  ·omega
def bit (F k:Int):Bool:=decide (F/k%2=1)
def rep (c n:Int):List Int:=List.replicate n.toNat c
theorem rep_len (c n:Int):(rep c n).length=n.toNat:=List.length_replicate
theorem rep_neg {c n:Int} (h:n≤0):rep c n=[]:=by
 rw [rep,show n.toNat=0 by omega];rfl
theorem rep_by {c n x:Int} (h0:0≤c∧c<256) (h:x∈rep c n):0≤x∧x<256:=by
 rw [rep,List.mem_replicate] at h
 rw [h.2];exact h0
def By (xs:List Int):Prop:=∀x∈xs,0≤x∧x<256
theorem By.nil:By []:=by intro x h;simp at h
theorem By.app {a b:List Int} (h:By a) (k:By b):By (a++b):=by
 intro x hx
 rcases List.mem_append.1 hx with q | q
 ·exact h x q
 ·exact k x q
theorem By.rep {c n:Int} (h0:0≤c∧c<256):By (rep c n):=fun _ h=>rep_by h0 h
theorem By.take {a:List Int} (h:By a) (k:Nat):By (a.take k):=fun x hx=>h x (List.mem_of_mem_take hx)
theorem By.cons {c:Int} {a:List Int} (h0:0≤c∧c<256) (h:By a):By (c::a):=by
 intro x hx
 rcases List.mem_cons.1 hx with q | q
 ·rw [q];exact h0
 ·exact h x q
def padT (F W:Int) (z:Bool) (h b:List Int):List Int:=
 if bit F 1=true then h++b++rep 32 (W - h.length - b.length)
 else if bit F 16=true∧z=true then h++rep 48 (W - h.length - b.length)++b
 else rep 32 (W - h.length - b.length)++h++b
def padE (F W P:Int) (h b:List Int):Int:=if chk F W P=0 then (if 16777216<h.length+b.length then 3 else 0) else chk F W P
def pad (F W P:Int) (z:Bool) (h b:List Int):List Int:=if padE F W P h b=0 then padT F W z h b else []
theorem padT_by {F W:Int} {z:Bool} {h b:List Int} (hh:By h) (hb:By b):By (padT F W z h b):=by
 unfold padT
 split
 ·exact (hh.app hb).app (By.rep (by omega))
 ·split
  ·exact (hh.app (By.rep (by omega))).app hb
  ·exact ((By.rep (by omega)).app hh).app hb
theorem padT_zero (F:Int) (z:Bool) (h b:List Int):padT F 0 z h b=h++b:=by
 have e:∀c,rep c (0 - (h.length:Int) - (b.length:Int))=[]:=fun c=>rep_neg (by omega)
 unfold padT
 rw [e,e]
 split
 ·simp
 ·split <;> simp
theorem padT_len (F W:Int) (z:Bool) (h b:List Int):(padT F W z h b).length=h.length+b.length+(W - h.length - b.length).toNat:=by
 unfold padT
 split
 ·simp [rep_len] <;> omega
 ·split <;> simp [rep_len] <;> omega
def cut (P:Int) (t:List Int):List Int:=if P=-1 then t else t.take P.toNat
end Wh
end Go.Proofs.YtbdhlfklcdegdaaGreatDoor

namespace Go.Proofs.YtbdhlfklcdegdaaGreatDoor
open Go Go.RowKit Go.Deep Go.Shelf
def jren:Go.Shelf.Ren:=⟨fun | 105=>112 | 212=>168 | 99=>169 | 165=>111 | 166=>105 | 170=>170 | 169=>106 | 263=>235 | 264=>224 | 206=>236 | 240=>164 | 241=>167 | 276=>231 | 277=>234 | 158=>166 | 167=>104 | 230=>232 | 203=>233 | 197=>253 | 118=>262 | 168=>263 | 270=>264 | 262=>265 | 260=>276 | 242=>278 | 313=>279 | 278=>293 | 274=>294 | 275=>295 | 137=>69 | 217=>103 | 266=>163 | n=>n,fun | 9=>9 | 3=>3 | 4=>4 | 20=>20 | 0=>0 | 46=>133 | 109=>194 | 5=>5 | 72=>148 | 76=>152 | 51=>234 | 146=>252 | 53=>24 | 148=>239 | 70=>145 | 37=>146 | 75=>150 | 127=>178 | 164=>247 | 80=>154 | 107=>250 | 21=>21 | 105=>256 | 162=>285 | 203=>283 | 119=>294 | 139=>297 | 138=>296 | 160=>299 | 208=>311 | 206=>309 | n=>n,fun | 13=>4 | 3=>5 | 4=>6 | n=>n⟩
theorem repLays:Go.Proofs.Lays.n105 Tryz.prog jren where
 mixed:=by kernel_rfl
 f99:=Tryz.func169.trans (congrArg some (by kernel_rfl))
 f105:=Tryz.func112.trans (congrArg some (by kernel_rfl))
 f165:=Tryz.func111.trans (congrArg some (by kernel_rfl))
 f166:=Tryz.func105.trans (congrArg some (by kernel_rfl))
 f169:=Tryz.func106.trans (congrArg some (by kernel_rfl))
 f170:=Tryz.func170.trans (congrArg some (by kernel_rfl))
 f206:=Tryz.func236.trans (congrArg some (by kernel_rfl))
 f212:=Tryz.func168.trans (congrArg some (by kernel_rfl))
 f240:=Tryz.func164.trans (congrArg some (by kernel_rfl))
 f241:=Tryz.func167.trans (congrArg some (by kernel_rfl))
 f263:=Tryz.func235.trans (congrArg some (by kernel_rfl))
 f264:=Tryz.func224.trans (congrArg some (by kernel_rfl))
 f276:=Tryz.func231.trans (congrArg some (by kernel_rfl))
 f277:=Tryz.func234.trans (congrArg some (by kernel_rfl))
 t0:=by kernel_rfl
 a0:=fun _=>by kernel_rfl
 z0:=fun _=>by kernel_rfl
 v0:=fun _=>by kernel_rfl
 t3:=by kernel_rfl
 a3:=fun _=>by kernel_rfl
 z3:=fun _=>by kernel_rfl
 v3:=fun _=>by kernel_rfl
 t4:=by kernel_rfl
 a4:=fun _=>by kernel_rfl
 z4:=fun _=>by kernel_rfl
 v4:=fun _=>by kernel_rfl
 t5:=by kernel_rfl
 a5:=fun _=>by kernel_rfl
 z5:=fun _=>by kernel_rfl
 v5:=fun _=>by kernel_rfl
 t9:=by kernel_rfl
 a9:=fun _=>by kernel_rfl
 z9:=fun _=>by kernel_rfl
 v9:=fun _=>by kernel_rfl
 t20:=by kernel_rfl
 a20:=fun _=>by kernel_rfl
 z20:=fun _=>by kernel_rfl
 v20:=fun _=>by kernel_rfl
 t37:=by kernel_rfl
 a37:=fun _=>by kernel_rfl
 z37:=fun _=>by kernel_rfl
 v37:=fun _=>by kernel_rfl
 t46:=by kernel_rfl
 a46:=fun _=>by kernel_rfl
 z46:=fun _=>by kernel_rfl
 v46:=fun _=>by kernel_rfl
 t51:=by kernel_rfl
 a51:=fun _=>by kernel_rfl
 z51:=fun _=>by kernel_rfl
 v51:=fun _=>by kernel_rfl
 t53:=by kernel_rfl
 a53:=fun _=>by kernel_rfl
 z53:=fun _=>by kernel_rfl
 v53:=fun _=>by kernel_rfl
 t70:=by kernel_rfl
 a70:=fun _=>by kernel_rfl
 z70:=fun _=>by kernel_rfl
 v70:=fun _=>by kernel_rfl
 t72:=by kernel_rfl
 a72:=fun _=>by kernel_rfl
 z72:=fun _=>by kernel_rfl
 v72:=fun _=>by kernel_rfl
 t75:=by kernel_rfl
 a75:=fun _=>by kernel_rfl
 z75:=fun _=>by kernel_rfl
 v75:=fun _=>by kernel_rfl
 t76:=by kernel_rfl
 a76:=fun _=>by kernel_rfl
 z76:=fun _=>by kernel_rfl
 v76:=fun _=>by kernel_rfl
 t109:=by kernel_rfl
 a109:=fun _=>by kernel_rfl
 z109:=fun _=>by kernel_rfl
 v109:=fun _=>by kernel_rfl
 t127:=by kernel_rfl
 a127:=fun _=>by kernel_rfl
 z127:=fun _=>by kernel_rfl
 v127:=fun _=>by kernel_rfl
 t146:=by kernel_rfl
 a146:=fun _=>by kernel_rfl
 z146:=fun _=>by kernel_rfl
 v146:=fun _=>by kernel_rfl
 t148:=by kernel_rfl
 a148:=fun _=>by kernel_rfl
 z148:=fun _=>by kernel_rfl
 v148:=fun _=>by kernel_rfl
 t164:=by kernel_rfl
 a164:=fun _=>by kernel_rfl
 z164:=fun _=>by kernel_rfl
 v164:=fun _=>by kernel_rfl
theorem jwsLays:Go.Proofs.Lays.n166 Tryz.prog jren where
 mixed:=by kernel_rfl
 f166:=Tryz.func105.trans (congrArg some (by kernel_rfl))
 f240:=Tryz.func164.trans (congrArg some (by kernel_rfl))
 f276:=Tryz.func231.trans (congrArg some (by kernel_rfl))
 t0:=by kernel_rfl
 a0:=fun _=>by kernel_rfl
 z0:=fun _=>by kernel_rfl
 v0:=fun _=>by kernel_rfl
 t3:=by kernel_rfl
 a3:=fun _=>by kernel_rfl
 z3:=fun _=>by kernel_rfl
 v3:=fun _=>by kernel_rfl
 t4:=by kernel_rfl
 a4:=fun _=>by kernel_rfl
 z4:=fun _=>by kernel_rfl
 v4:=fun _=>by kernel_rfl
 t9:=by kernel_rfl
 a9:=fun _=>by kernel_rfl
 z9:=fun _=>by kernel_rfl
 v9:=fun _=>by kernel_rfl
 t20:=by kernel_rfl
 a20:=fun _=>by kernel_rfl
 z20:=fun _=>by kernel_rfl
 v20:=fun _=>by kernel_rfl
 t37:=by kernel_rfl
 a37:=fun _=>by kernel_rfl
 z37:=fun _=>by kernel_rfl
 v37:=fun _=>by kernel_rfl
 t70:=by kernel_rfl
 a70:=fun _=>by kernel_rfl
 z70:=fun _=>by kernel_rfl
 v70:=fun _=>by kernel_rfl
 t72:=by kernel_rfl
 a72:=fun _=>by kernel_rfl
 z72:=fun _=>by kernel_rfl
 v72:=fun _=>by kernel_rfl
 t75:=by kernel_rfl
 a75:=fun _=>by kernel_rfl
 z75:=fun _=>by kernel_rfl
 v75:=fun _=>by kernel_rfl
 t164:=by kernel_rfl
 a164:=fun _=>by kernel_rfl
 z164:=fun _=>by kernel_rfl
 v164:=fun _=>by kernel_rfl
theorem idxLays:Go.Proofs.Lays.n137 Tryz.prog jren where
 mixed:=by kernel_rfl
 f137:=Tryz.func69.trans (congrArg some (by kernel_rfl))
 f217:=Tryz.func103.trans (congrArg some (by kernel_rfl))
 f266:=Tryz.func163.trans (congrArg some (by kernel_rfl))
 t3:=by kernel_rfl
 a3:=fun _=>by kernel_rfl
 z3:=fun _=>by kernel_rfl
 v3:=fun _=>by kernel_rfl
 t5:=by kernel_rfl
 a5:=fun _=>by kernel_rfl
 z5:=fun _=>by kernel_rfl
 v5:=fun _=>by kernel_rfl
 t9:=by kernel_rfl
 a9:=fun _=>by kernel_rfl
 z9:=fun _=>by kernel_rfl
 v9:=fun _=>by kernel_rfl
theorem jExtra:Builder.Extra Tryz.prog jren where
 sizeBuilder:=by kernel_rfl
 liesBuilder:=by kernel_rfl
 t5:=by kernel_rfl
 a5:=fun _=>by kernel_rfl
 z5:=fun _=>by kernel_rfl
 v5:=fun _=>by kernel_rfl
 infoByte:=by kernel_rfl
 cellsByte:=by kernel_rfl
 sizeByte:=by kernel_rfl
 neB5:=by decide
end Go.Proofs.YtbdhlfklcdegdaaGreatDoor

namespace Go.Proofs.YtbdhlfklcdegdaaGreatDoor
open Go Go.RowKit Go.Deep Go.Shelf
set_option maxRecDepth 100000 in
theorem upLays:Go.Proofs.Lays.n158 Tryz.prog jren where
 mixed:=by kernel_rfl
 f118:=Tryz.func262.trans (congrArg some (by kernel_rfl))
 f158:=Tryz.func166.trans (congrArg some (by kernel_rfl))
 f165:=Tryz.func111.trans (congrArg some (by kernel_rfl))
 f166:=Tryz.func105.trans (congrArg some (by kernel_rfl))
 f167:=Tryz.func104.trans (congrArg some (by kernel_rfl))
 f168:=Tryz.func263.trans (congrArg some (by kernel_rfl))
 f169:=Tryz.func106.trans (congrArg some (by kernel_rfl))
 f197:=Tryz.func253.trans (congrArg some (by kernel_rfl))
 f203:=Tryz.func233.trans (congrArg some (by kernel_rfl))
 f230:=Tryz.func232.trans (congrArg some (by kernel_rfl))
 f240:=Tryz.func164.trans (congrArg some (by kernel_rfl))
 f241:=Tryz.func167.trans (congrArg some (by kernel_rfl))
 f242:=Tryz.func278.trans (congrArg some (by kernel_rfl))
 f260:=Tryz.func276.trans (congrArg some (by kernel_rfl))
 f262:=Tryz.func265.trans (congrArg some (by kernel_rfl))
 f270:=Tryz.func264.trans (congrArg some (by kernel_rfl))
 f274:=Tryz.func294.trans (congrArg some (by kernel_rfl))
 f275:=Tryz.func295.trans (congrArg some (by kernel_rfl))
 f276:=Tryz.func231.trans (congrArg some (by kernel_rfl))
 f277:=Tryz.func234.trans (congrArg some (by kernel_rfl))
 f278:=Tryz.func293.trans (congrArg some (by kernel_rfl))
 f313:=Tryz.func279.trans (congrArg some (by kernel_rfl))
 t0:=by kernel_rfl
 a0:=fun _=>by kernel_rfl
 z0:=fun _=>by kernel_rfl
 v0:=fun _=>by kernel_rfl
 t3:=by kernel_rfl
 a3:=fun _=>by kernel_rfl
 z3:=fun _=>by kernel_rfl
 v3:=fun _=>by kernel_rfl
 t4:=by kernel_rfl
 a4:=fun _=>by kernel_rfl
 z4:=fun _=>by kernel_rfl
 v4:=fun _=>by kernel_rfl
 t5:=by kernel_rfl
 a5:=fun _=>by kernel_rfl
 z5:=fun _=>by kernel_rfl
 v5:=fun _=>by kernel_rfl
 t9:=by kernel_rfl
 a9:=fun _=>by kernel_rfl
 z9:=fun _=>by kernel_rfl
 v9:=fun _=>by kernel_rfl
 t20:=by kernel_rfl
 a20:=fun _=>by kernel_rfl
 z20:=fun _=>by kernel_rfl
 v20:=fun _=>by kernel_rfl
 t21:=by kernel_rfl
 a21:=fun _=>by kernel_rfl
 z21:=fun _=>by kernel_rfl
 v21:=fun _=>by kernel_rfl
 t37:=by kernel_rfl
 a37:=fun _=>by kernel_rfl
 z37:=fun _=>by kernel_rfl
 v37:=fun _=>by kernel_rfl
 t46:=by kernel_rfl
 a46:=fun _=>by kernel_rfl
 z46:=fun _=>by kernel_rfl
 v46:=fun _=>by kernel_rfl
 t51:=by kernel_rfl
 a51:=fun _=>by kernel_rfl
 z51:=fun _=>by kernel_rfl
 v51:=fun _=>by kernel_rfl
 t70:=by kernel_rfl
 a70:=fun _=>by kernel_rfl
 z70:=fun _=>by kernel_rfl
 v70:=fun _=>by kernel_rfl
 t72:=by kernel_rfl
 a72:=fun _=>by kernel_rfl
 z72:=fun _=>by kernel_rfl
 v72:=fun _=>by kernel_rfl
 t75:=by kernel_rfl
 a75:=fun _=>by kernel_rfl
 z75:=fun _=>by kernel_rfl
 v75:=fun _=>by kernel_rfl
 t76:=by kernel_rfl
 a76:=fun _=>by kernel_rfl
 z76:=fun _=>by kernel_rfl
 v76:=fun _=>by kernel_rfl
 t105:=by kernel_rfl
 a105:=fun _=>by kernel_rfl
 z105:=fun _=>by kernel_rfl
 v105:=fun _=>by kernel_rfl
 t107:=by kernel_rfl
 a107:=fun _=>by kernel_rfl
 z107:=fun _=>by kernel_rfl
 v107:=fun _=>by kernel_rfl
 t119:=by kernel_rfl
 a119:=fun _=>by kernel_rfl
 z119:=fun _=>by kernel_rfl
 t127:=by kernel_rfl
 a127:=fun _=>by kernel_rfl
 z127:=fun _=>by kernel_rfl
 v127:=fun _=>by kernel_rfl
 t138:=by kernel_rfl
 a138:=fun _=>by kernel_rfl
 z138:=fun _=>by kernel_rfl
 v138:=fun _=>by kernel_rfl
 t139:=by kernel_rfl
 a139:=fun _=>by kernel_rfl
 z139:=fun _=>by kernel_rfl
 v139:=fun _=>by kernel_rfl
 t160:=by kernel_rfl
 a160:=fun _=>by kernel_rfl
 z160:=fun _=>by kernel_rfl
 v160:=fun _=>by kernel_rfl
 t162:=by kernel_rfl
 a162:=fun _=>by kernel_rfl
 z162:=fun _=>by kernel_rfl
 v162:=fun _=>by kernel_rfl
 t164:=by kernel_rfl
 a164:=fun _=>by kernel_rfl
 z164:=fun _=>by kernel_rfl
 v164:=fun _=>by kernel_rfl
 t203:=by kernel_rfl
 a203:=fun _=>by kernel_rfl
 z203:=fun _=>by kernel_rfl
 v203:=fun _=>by kernel_rfl
 t206:=by kernel_rfl
 a206:=fun _=>by kernel_rfl
 z206:=fun _=>by kernel_rfl
 v206:=fun _=>by kernel_rfl
 t208:=by kernel_rfl
 a208:=fun _=>by kernel_rfl
 z208:=fun _=>by kernel_rfl
 v208:=fun _=>by kernel_rfl
 g3:=by kernel_rfl
 g4:=by kernel_rfl
 g13:=by kernel_rfl
end Go.Proofs.YtbdhlfklcdegdaaGreatDoor

namespace Go.Proofs.YtbdhlfklcdegdaaGreatDoor
open Go.RowKit Go.Deep
theorem wpList_append_b {ty:TypeId} {ops:Array Oper} {rest:List Oper} {o:Oper} {a:Act} {Q:Exit→Act→World→Prop} (hgd:o.guard=none) (s x:Operand)
  (ho:o.op=.call { callee:=.builtin .append,args:=#[s,x],argTypes:=#[ty,ty] }) {v y v':Value} {w w':World} (hr:(Builtin.append_ #[ty,ty] o.type #[v,y]).run Tryz.prog w=.ok v' w') (hs:a.eval s=v) (hx:a.eval x=y)
  (h:wpList Tryz.prog ops Q rest (a.put o.dst v') w'):wpList Tryz.prog ops Q (o::rest) a w:=by
 refine wpList_plain hgd fun K hK=>?_
 unfold Oper.wp execOp
 simp only [ho,resolve,invoke,builtin,Sem.run_bind,Sem.run_pure,Result.andThen_ok,List.map_toArray,List.map_cons,List.map_nil,hs,hx,hr]
 exact hK _ _ h
def Row8 (base:Nat) (w:World) (mv:Value) (xs:List Int):Prop:=w.ownsRow base 5 1 mv xs.length (xs.map (Value.int .u8))
theorem Row8.below {base:Nat} {w w':World} {mv:Value} {xs:List Int} (h:Row8 base w mv xs) (hb:Below w.heap.size w w'):Row8 base w' mv xs:=
 World.ownsRow.kept (row:=none) h ⟨hb.os,hb.tape,hb.output,hb.size,fun j hj _=>hb.block j hj⟩ (by cases h:Value.ownBlock mv <;> simp)
theorem Row8.push {base:Nat} {w:World} {mv:Value} {xs:List Int} (ho:Row8 base w mv xs) (x:Int) (hn:xs.length<140737488351232) (hb:base≤w.heap.size):
  ∃mv' w',(Builtin.append_ #[146,146] 146 #[mv,.slice (some ⟨w.heap.size,0,none⟩) 1 1]).run Tryz.prog (w.alloc (.cells #[.int .u8 x] 5))=.ok mv' w'∧Row8 base w' mv' (xs++[x])∧w.heap.size≤w'.heap.size∧
   Below base w w'∧(∀j,j<w.heap.size→some j≠mv.ownBlock→w'.heap[j]?=w.heap[j]?):=by
 obtain ⟨i,hi,hz⟩:=Option.map_eq_some_iff.1 info8
 simp only [Prod.mk.injEq] at hz
 obtain ⟨z1,z2,z3⟩:=hz
 have bm:Below w.heap.size w (w.alloc (.cells #[.int .u8 x] 5)):=(Below.refl _ _).alloc (Nat.le_refl _) _
 have hs:(w.alloc (.cells #[.int .u8 x] 5)).heap.size=w.heap.size+1:=World.size_alloc _ _
 have ho':=World.ownsRow.alloc ho (.cells #[.int .u8 x] 5)
 have hcell:(w.alloc (.cells #[.int .u8 x] 5)).cell? ⟨w.heap.size,0,none⟩=some (.int .u8 x):=
  (OwnB.alloc w [x]).cell 0 (by simp)
 obtain ⟨v',w',hr,h1,h2,_⟩:=run_append_own (P:=Tryz.prog) (w.alloc (.cells #[.int .u8 x] 5)) base 146 146 5 i (.int .u8 0) 1 1 Tryz.underlying146 hi z1 z2 z3 rfl (by omega) mv xs.length (xs.map (Value.int .u8)) ho'
  ⟨w.heap.size,0,none⟩ 1 1 [.int .u8 x] rfl (fun j u hu=>by
   cases j with
   | zero=>
    simp at hu
    subst hu
    rw [Go.WideShapes.add_plain]
    exact hcell
   | succ j=>simp at hu) (fun u hu=>by simp at hu;subst hu;rfl) (by simp only [maxLen];omega) (by omega) (by rw [hs];omega)
 refine ⟨v',w',hr,by simpa [Row8] using h1,by have:=h2.size;omega,?_,fun j hj hne=>?_⟩
 ·have hb2:Below base (w.alloc (.cells #[.int .u8 x] 5)) w':=by
   refine ⟨h2.os,h2.tape,h2.output,h2.size,fun j hj=>h2.block j (by rw [hs];omega) ?_⟩
   intro hk
   have:=(ho'.lt j hk.symm).1
   omega
  exact (bm.mono hb).trans hb2
 ·rw [h2.block j (by rw [hs];omega) hne]
  exact bm.block j hj
theorem Row8.shape {base:Nat} {w:World} {mv:Value} {xs:List Int} (h:Row8 base w mv xs):∃pm cp,mv=.slice pm xs.length cp:=by
 rcases h.2 with ⟨rfl,h0⟩ | ⟨g,cp,cur,rfl,_⟩
 ·exact ⟨none,0,by rw [h0]⟩
 ·exact ⟨_,cp,rfl⟩
theorem Row8.cells {base:Nat} {w:World} {mv:Value} {xs:List Int} (h:Row8 base w mv xs) (h0:xs≠[]):∃g cp,mv=.slice (some ⟨g,0,none⟩) xs.length cp∧∀i,i<xs.length→w.cell? ⟨g,0+i,none⟩=some (.int .u8 (xs.getD i 0)):=by
 rcases h.2 with ⟨rfl,hn⟩ | ⟨g,cp,cur,rfl,_⟩
 ·exact absurd (List.eq_nil_of_length_eq_zero hn) h0
 ·refine ⟨g,cp,rfl,fun i hi=>?_⟩
  have:=World.ownsRow.cells h (g:=g) rfl i (.int .u8 (xs.getD i 0)) (by simp [List.getD,hi])
  rw [Go.WideShapes.add_plain] at this
  exact this
end Go.Proofs.YtbdhlfklcdegdaaGreatDoor



namespace Go.Proofs.YtbdhlfklcdegdaaGreatDoor
open Go.RowKit Go.Deep
theorem top_any (p:Option Addr) (n cap:Nat) (zs:List Int) (w:World) (hn:zs.length=n) (hm:n≤140737488355328) (h:Lies w p zs):
  Calls Tryz.prog 301 #[.slice p n cap] w fun e w'=>e=.returned (.int .i64 (Nm.tsize zs))∧w'=w:=by
 rcases h with rfl | ⟨b,off,rfl,hcell⟩
 ·have hn0:n=0:=by simpa using hn.symm
  subst hn0
  go_enter Tryz.func301,Tryz.ntmps301
  go_wp2
  refine wp_loop_rounds 1 ?_
  rw [rounds_succ]
  go_wp2
  go_ret
  exact ⟨rfl,rfl⟩
 ·have H:Hid (zs.length=n):=hn
  have HC:Hid (∀i,i<zs.length→w.cell? ⟨b,off+i,none⟩=some (.int .u64 (zs.getD i 0))):=hcell
  clear hn hcell
  go_enter Tryz.func301,Tryz.ntmps301
  go_wp2
  go_loop [3] (fun t=>∃k:Nat,k≤n∧t=.int .i64 k∧Hid (∀j,k≤j→zs.getD j 0=0)) (fun t=>(intOf t).toNat)
  case atStart=>exact ⟨n,Nat.le_refl _,rfl,fun j hj=>by simp [List.getD,List.getElem?_eq_none (show zs.length≤j by have:=H.out;omega)]⟩
  case round=>
   obtain ⟨k,hk,rfl,hz⟩:=hrel
   by_cases h0:k=0
   ·subst h0
    go_wp2
    go_ret
    exact ⟨by rw [Nm.tsize_unique zs 0 hz.out (.inl rfl)];rfl,rfl⟩
   ·obtain ⟨j,rfl⟩:∃j,k=j+1:=⟨k - 1,by omega⟩
    obtain ⟨x,hx,X⟩:∃x,w.cell? ⟨b,off+j,none⟩=some (.int .u64 x)∧Hid (x=zs.getD j 0):=⟨_,HC.out j (by have:=H.out;omega),rfl⟩
    by_cases hx0:x=0
    ·subst hx0
     go_wp2
     go_round
     case rel=>
      refine ⟨j,by omega,rfl,fun i hi=>?_⟩
      by_cases e:i=j
      ·subst e;exact X.out.symm
      ·exact hz.out i (by omega)
     case measure=>simp [intOf]
    ·go_wp2
     go_ret
     exact ⟨by rw [Nm.tsize_unique zs (j+1) hz.out (.inr (by rw [Nat.add_sub_cancel,←X.out];exact hx0))];rfl,rfl⟩
end Go.Proofs.YtbdhlfklcdegdaaGreatDoor

namespace Go.Proofs.YtbdhlfklcdegdaaGreatDoor
open Go.RowKit Go.Deep
theorem wpList_append_row {ty:TypeId} {ops:Array Oper} {rest:List Oper} {o:Oper} {a:Act} {Q:Exit→Act→World→Prop} (hgd:o.guard=none) (s x:Operand)
  (ho:o.op=.call { callee:=.builtin .append,args:=#[s,x],argTypes:=#[ty,ty] }) {v y v':Value} {w w':World} (hr:(Builtin.append_ #[ty,ty] o.type #[v,y]).run Tryz.prog w=.ok v' w') (hs:a.eval s=v) (hx:a.eval x=y)
  (h:wpList Tryz.prog ops Q rest (a.put o.dst v') w'):wpList Tryz.prog ops Q (o::rest) a w:=by
 refine wpList_plain hgd fun K hK=>?_
 unfold Oper.wp execOp
 simp only [ho,resolve,invoke,builtin,Sem.run_bind,Sem.run_pure,Result.andThen_ok,List.map_toArray,List.map_cons,List.map_nil,hs,hx,hr]
 exact hK _ _ h
def Grown (w:World) (g:Nat) (xs:List Int) (k:Nat):Prop:=Own w g (xs++List.replicate k 0)
theorem Grown.made (w:World) (c:Nat):Grown (w.alloc (.cells (madeCells #[.int .u64 0] c) 24)) w.heap.size [] c:=by
 rw [made_zero];exact Own.alloc w _
theorem Grown.below {w w':World} {B g k:Nat} {xs:List Int} (h:Grown w g xs k) (hb:Below B w w') (hg:g<B):Grown w' g xs k:=Own.below h hb hg
theorem Grown.lies {w:World} {g k:Nat} {xs:List Int} (h:Grown w g xs k):Lies w (some ⟨g,0,none⟩) xs:=by
 have:=(Own.lies h).take xs.length
 rwa [List.take_left'] at this
 rfl
theorem push64 (g n k cap:Nat) (xs:List Int) (x:Int) (w:World) (hn:xs.length=n) (hcap:n+(k+1)=cap) (ho:Grown w g xs (k+1)):
  ∃w',(Builtin.append_ #[50,50] 50 #[.slice (some ⟨g,0,none⟩) n cap,.slice (some ⟨w.heap.size,0,none⟩) 1 1]).run Tryz.prog (w.alloc (.cells #[.int .u64 x] 24))=.ok (.slice (some ⟨g,0,none⟩) (n+1) cap) w'∧Grown w' g (xs++[x]) k∧Below g w w'∧w'.heap.size=w.heap.size+1:=by
 have hg:=Own.lt ho
 have bm:Below w.heap.size w (w.alloc (.cells #[.int .u64 x] 24)):=(Below.refl _ _).alloc (Nat.le_refl _) _
 have hl:Lies (w.alloc (.cells #[.int .u64 x] 24)) (some ⟨w.heap.size,0,none⟩) [x]:=(Own.alloc w [x]).lies
 obtain ⟨w',ap,ow,be,sz⟩:=append64 g cap n (xs++List.replicate (k+1) 0) (some ⟨w.heap.size,0,none⟩) 1 1 [x] 50 _ (by simp;omega) rfl (by omega) (Own.below ho bm hg) hl
 refine ⟨w',ap,?_,(bm.mono (by omega)).trans be,by rw [sz,World.size_alloc]⟩
 have e:List.take n (xs++List.replicate (k+1) (0:Int))++[x]++List.drop (n+1) (xs++List.replicate (k+1) 0)=xs++[x]++List.replicate k 0:=by
  subst hn
  rw [List.take_left',List.drop_append,List.drop_eq_nil_of_le (by omega),show xs.length+1 - xs.length=1 by omega]
  ·simp [List.replicate]
  ·rfl
 rw [e] at ow
 exact ow
end Go.Proofs.YtbdhlfklcdegdaaGreatDoor

namespace Go.Proofs.YtbdhlfklcdegdaaGreatDoor
open Go.RowKit Go.Deep
theorem wpList_append_d {ty:TypeId} {ops:Array Oper} {rest:List Oper} {o:Oper} {a:Act} {Q:Exit→Act→World→Prop} (hgd:o.guard=none) (s x:Operand)
  (ho:o.op=.call { callee:=.builtin .append,args:=#[s,x],argTypes:=#[ty,ty] }) {v y v':Value} {w w':World} (hr:(Builtin.append_ #[ty,ty] o.type #[v,y]).run Tryz.prog w=.ok v' w') (hs:a.eval s=v) (hx:a.eval x=y)
  (h:wpList Tryz.prog ops Q rest (a.put o.dst v') w'):wpList Tryz.prog ops Q (o::rest) a w:=by
 refine wpList_plain hgd fun K hK=>?_
 unfold Oper.wp execOp
 simp only [ho,resolve,invoke,builtin,Sem.run_bind,Sem.run_pure,Result.andThen_ok,List.map_toArray,List.map_cons,List.map_nil,hs,hx,hr]
 exact hK _ _ h
def Row64 (base:Nat) (w:World) (mv:Value) (xs:List Int):Prop:=w.ownsRow base 24 1 mv xs.length (xs.map (Value.int .u64))
theorem Row64.below {base:Nat} {w w':World} {mv:Value} {xs:List Int} (h:Row64 base w mv xs) (hb:Below w.heap.size w w'):Row64 base w' mv xs:=
 World.ownsRow.kept (row:=none) h ⟨hb.os,hb.tape,hb.output,hb.size,fun j hj _=>hb.block j hj⟩ (by cases h:Value.ownBlock mv <;> simp)
theorem Row64.push {base:Nat} {w:World} {mv:Value} {xs:List Int} (ho:Row64 base w mv xs) (x:Int) (hn:xs.length<17592186044415) (hb:base≤w.heap.size):
  ∃mv' w',(Builtin.append_ #[50,50] 50 #[mv,.slice (some ⟨w.heap.size,0,none⟩) 1 1]).run Tryz.prog (w.alloc (.cells #[.int .u64 x] 24))=.ok mv' w'∧Row64 base w' mv' (xs++[x])∧w.heap.size≤w'.heap.size∧
   Below base w w'∧(∀j,j<w.heap.size→some j≠mv.ownBlock→w'.heap[j]?=w.heap[j]?):=by
 obtain ⟨i,hi,hz⟩:=Option.map_eq_some_iff.1 info64
 simp only [Prod.mk.injEq] at hz
 obtain ⟨z1,z2,z3⟩:=hz
 have bm:Below w.heap.size w (w.alloc (.cells #[.int .u64 x] 24)):=(Below.refl _ _).alloc (Nat.le_refl _) _
 have hs:(w.alloc (.cells #[.int .u64 x] 24)).heap.size=w.heap.size+1:=World.size_alloc _ _
 have ho':=World.ownsRow.alloc ho (.cells #[.int .u64 x] 24)
 have hcell:(w.alloc (.cells #[.int .u64 x] 24)).cell? ⟨w.heap.size,0,none⟩=some (.int .u64 x):=
  (Own.alloc w [x]).cell 0 (by simp)
 obtain ⟨v',w',hr,h1,h2,_⟩:=run_append_own (P:=Tryz.prog) (w.alloc (.cells #[.int .u64 x] 24)) base 50 50 24 i (.int .u64 0) 1 8 Tryz.underlying50 hi z1 z2 z3 rfl (by omega) mv xs.length (xs.map (Value.int .u64)) ho'
  ⟨w.heap.size,0,none⟩ 1 1 [.int .u64 x] rfl (fun j u hu=>by
   cases j with
   | zero=>
    simp at hu
    subst hu
    rw [Go.WideShapes.add_plain]
    exact hcell
   | succ j=>simp at hu) (fun u hu=>by simp at hu;subst hu;rfl) (by simp only [maxLen];omega) (by omega) (by rw [hs];omega)
 refine ⟨v',w',hr,by simpa [Row64] using h1,by have:=h2.size;omega,?_,fun j hj hne=>?_⟩
 ·have hb2:Below base (w.alloc (.cells #[.int .u64 x] 24)) w':=by
   refine ⟨h2.os,h2.tape,h2.output,h2.size,fun j hj=>h2.block j (by rw [hs];omega) ?_⟩
   intro hk
   have:=(ho'.lt j hk.symm).1
   omega
  exact (bm.mono hb).trans hb2
 ·rw [h2.block j (by rw [hs];omega) hne]
  exact bm.block j hj
theorem Row64.shape {base:Nat} {w:World} {mv:Value} {xs:List Int} (h:Row64 base w mv xs):∃pm cp,mv=.slice pm xs.length cp:=by
 rcases h.2 with ⟨rfl,h0⟩ | ⟨g,cp,cur,rfl,_⟩
 ·exact ⟨none,0,by rw [h0]⟩
 ·exact ⟨_,cp,rfl⟩
theorem Row64.cells {base:Nat} {w:World} {mv:Value} {xs:List Int} (h:Row64 base w mv xs) (h0:xs≠[]):∃g cp,mv=.slice (some ⟨g,0,none⟩) xs.length cp∧∀i,i<xs.length→w.cell? ⟨g,0+i,none⟩=some (.int .u64 (xs.getD i 0)):=by
 rcases h.2 with ⟨rfl,hn⟩ | ⟨g,cp,cur,rfl,_⟩
 ·exact absurd (List.eq_nil_of_length_eq_zero hn) h0
 ·refine ⟨g,cp,rfl,fun i hi=>?_⟩
  have:=World.ownsRow.cells h (g:=g) rfl i (.int .u64 (xs.getD i 0)) (by simp [List.getD,hi])
  rw [Go.WideShapes.add_plain] at this
  exact this
theorem Row64.set {base:Nat} {w:World} {g n cap:Nat} {xs:List Int} (h:Row64 base w (.slice (some ⟨g,0,none⟩) n cap) xs) (i:Nat) (v:Int):Row64 base (w.setCell ⟨g,i,none⟩ (.int .u64 v)) (.slice (some ⟨g,0,none⟩) n cap) (xs.set i v):=by
 have hl:xs.length=n:=by
  obtain ⟨pm,cp,e⟩:=h.shape
  simp only [Value.slice.injEq] at e
  exact e.2.1.symm
 refine ⟨by simp,?_⟩
 rcases h.2 with ⟨c,_⟩ | ⟨g',cap',cur,e,h1,h2,h3,h4,h5,h6⟩
 ·cases c
 ·simp only [Value.slice.injEq,Option.some.injEq] at e
  obtain ⟨e1,e2,e3⟩:=e
  cases e1
  subst e3
  refine .inr ⟨g,cap,cur.set! i (.int .u64 v),by rw [List.length_set,hl],h1,?_,by rw [List.length_set];exact h3,h4,by simpa using h5,?_⟩
  ·simp [World.setCell,Array.getElem?_modify,h2]
  ·rw [List.length_set,Array.set!,Array.toList_setIfInBounds,List.take_set,h6,List.map_set]
theorem Row64.free {base:Nat} {w:World} {g n cap:Nat} {xs:List Int} (h:Row64 base w (.slice (some ⟨g,0,none⟩) n cap) xs) (i:Nat):w.frozen? ⟨g,i,none⟩=false:=by
 rcases h.2 with ⟨c,_⟩ | ⟨g',cap',cur,e,h1,h2,h3⟩
 ·cases c
 ·simp only [Value.slice.injEq,Option.some.injEq] at e
  obtain ⟨e1,e2,e3⟩:=e
  cases e1
  simp [World.frozen?,h2]
end Go.Proofs.YtbdhlfklcdegdaaGreatDoor

namespace Go.Proofs.YtbdhlfklcdegdaaGreatDoor
open Go Go.RowKit Go.Deep
theorem idx_hit {c:Int}:∀{xs:List Int} {i:Nat},(∀t,t<i→xs.getD t 0≠c)→i<xs.length→xs.getD i 0=c→Dr.idx xs c=(i:Int)
 | [],i,_,h,_=>by simp at h
 | x::l,0,_,_,h=>by
  rw [Dr.idx,if_pos (by simpa using h)];rfl
 | x::l,i+1,h1,h2,h3=>by
  have ih:=idx_hit (c:=c) (xs:=l) (i:=i) (fun t ht=>by have:=h1 (t+1) (by omega);simpa using this) (by simpa using h2) (by simpa using h3)
  have hx:¬x=c:=by have:=h1 0 (by omega);simpa using this
  rw [Dr.idx,if_neg hx,ih,if_neg (by omega)]
  omega
theorem idx_miss {c:Int}:∀{xs:List Int},(∀t,t<xs.length→xs.getD t 0≠c)→Dr.idx xs c=-1
 | [],_=>rfl
 | x::l,h=>by
  have ih:=idx_miss (c:=c) (xs:=l) (fun t ht=>by have:=h (t+1) (by simp;omega);simpa using this)
  have hx:¬x=c:=by have:=h 0 (by simp);simpa using this
  rw [Dr.idx,if_neg hx,ih,if_pos (by omega)]
set_option maxRecDepth 100000 in
set_option maxHeartbeats 1000000 in
theorem rat_any (s:ByteArray) (xs:List Int) (c:Int) (w:World) (hs:Str s xs) (hl:xs.length≤140737488355328):
  Calls Tryz.prog 128 #[.string s,.int .u8 c] w fun e w'=>e=.returned (.int .i64 (Dr.idx xs c))∧w'=w:=by
 have sx:=hs.size
 have HL:=hid hl
 have HS:=hid hs
 have SX:=hid sx
 clear hs hl sx
 go_enter Tryz.func128,Tryz.ntmps128
 go_wp2_with fail
 go_loopg [5] s.size (fun m k wr=>∃i:Nat,i+m=s.size∧k=.int .i64 (i:Int)∧wr=w∧Hid (∀t,t<i→xs.getD t 0≠c))
 case atStart=>exact ⟨0,by omega,rfl,rfl,fun t ht=>by omega⟩
 case round=>
  obtain ⟨i,hi,rfl,rfl,I⟩:=hrel
  by_cases il:i<s.size
  ·have ili:(i:Int)<(s.size:Int):=by omega
   have ib:(i:Int)≤140737488355328:=by have:=HL.out;have:=SX.out;omega
   obtain ⟨x,hx⟩:∃x,xs.getD i 0=x:=⟨_,rfl⟩
   have ki:∀h:i<s.size,((s[i]'h).toNat:Int)=x:=fun h=>hx▸HS.out.at i h
   by_cases hc:x=c
   ·have R:Hid (Dr.idx xs c=(i:Int)):=idx_hit I.out (by have:=SX.out;omega) (hx.trans hc)
    have hc1:(x == c)=true:=by simpa using hc
    clear I hx hc HS
    go_wp2_with fail
    go_ret
    exact ⟨by rw [R.out];rfl,rfl⟩
   ·have hc1:(x == c)=false:=by simpa using hc
    have I2:Hid (∀t,t<i+1→xs.getD t 0≠c):=fun t ht=>by
     by_cases e:t=i
     ·subst e;rw [hx];exact hc
     ·exact I.out t (by omega)
    clear I hx hc HS
    go_wp2_with fail
    go_roundg (s.size - (i+1))
    case measure=>omega
    case rel=>exact ⟨i+1,by omega,by go_num,rfl,I2.out⟩
  ·have ili:¬(i:Int)<(s.size:Int):=by omega
   have R:Hid (Dr.idx xs c=-1):=idx_miss (fun t ht=>I.out t (by have:=SX.out;omega))
   clear I HS
   go_wp2_with fail
   go_ret
   exact ⟨by rw [R.out];rfl,rfl⟩
theorem rdigit_any (c:Int) (w:World):
  Calls Tryz.prog 248 #[.int .u8 c] w fun e w'=>e=.returned (.bool (Dr.isD c))∧w'=w:=by
 by_cases h:48≤c
 ·have G:Hid (Dr.isD c=decide (c≤57)):=by rw [Hid,Dr.isD,decide_eq_true h,Bool.true_and]
  go_enter Tryz.func248,Tryz.ntmps248
  go_wp2_with fail
  go_ret
  exact ⟨by rw [G.out];rfl,rfl⟩
 ·have G:Hid (Dr.isD c=false):=by rw [Hid,Dr.isD,decide_eq_false h,Bool.false_and]
  go_enter Tryz.func248,Tryz.ntmps248
  go_wp2_with fail
  go_ret
  exact ⟨by rw [G.out];rfl,rfl⟩
end Go.Proofs.YtbdhlfklcdegdaaGreatDoor

namespace Go.Proofs.YtbdhlfklcdegdaaGreatDoor
open Go Go.RowKit Go.Deep
set_option maxRecDepth 100000 in
theorem rbit_any (c:Int) (w:World) (hc:0≤Dr.idx Dr.marks c):
  Calls Tryz.prog 193 #[.int .u8 c] w fun e w'=>e=.returned (.int .i64 (2^(Dr.idx Dr.marks c).toNat))∧w'=w:=by
 have IX:=hid (fun W=>rat_any ⟨#[45,43,32,35,48]⟩ Dr.marks c W rfl (by decide))
 have lt:=Dr.idx_lt Dr.marks c
 rw [show ((Dr.marks.length:Nat):Int)=5 from rfl] at lt
 generalize Dr.idx Dr.marks c=i at *
 rcases (show i=0∨i=1∨i=2∨i=3∨i=4 by omega) with rfl | rfl | rfl | rfl | rfl
 all_goals
  clear hc lt
  go_enter Tryz.func193,Tryz.ntmps193
  go_wp2_with (go_at_call 128;refine (IX.out _).mono ?_;rintro e w2 ⟨rfl,rfl⟩)
  refine wp_loop_rounds 5 ?_
  iterate 5
   (try rw [rounds_succ];go_wp2_with fail)
  go_ret
  exact ⟨rfl,rfl⟩
theorem dN_step {xs:List Int} {i:Nat} {n:Int} (hi:i<xs.length) (hd:Dr.isD (xs.getD i 0)=true):Dr.dN n (xs.drop i)=Dr.dN (min (10*n+(xs.getD i 0 - 48)) 4097) (xs.drop (i+1)):=by
 rw [List.drop_eq_getElem_cons hi,Dr.dN]
 have e:xs.getD i 0=xs[i]:=by rw [List.getD_eq_getElem?_getD,List.getElem?_eq_getElem hi];rfl
 rw [e] at hd ⊢
 rw [if_pos hd]
set_option maxRecDepth 100000 in
set_option maxHeartbeats 1000000 in
theorem rnumber_any (s:ByteArray) (xs:List Int) (w:World) (hs:Str s xs) (hl:xs.length≤140737488355328) (hd:∀i,i<xs.length→Dr.isD (xs.getD i 0)=true):
  Calls Tryz.prog 194 #[.string s] w fun e w'=>e=.returned (.int .i64 (Dr.dN 0 xs))∧w'=w:=by
 have SX:=hid hs.size
 have HL:=hid hl
 have HS:=hid hs
 have HD:=hid hd
 clear hs hl hd
 go_enter Tryz.func194,Tryz.ntmps194
 go_wp2_with fail
 go_loopg [3,4] s.size (fun m nv k wr=>∃(i:Nat) (n:Int),i+m=s.size∧nv=.int .i64 n∧k=.int .i64 (i:Int)∧wr=w∧Hid (0≤n∧n≤4097∧Dr.dN n (xs.drop i)=Dr.dN 0 xs))
 case atStart=>exact ⟨0,0,by omega,rfl,rfl,rfl,by omega,by omega,by rw [List.drop_zero]⟩
 case round=>
  obtain ⟨i,n,hi,rfl,rfl,rfl,I⟩:=hrel
  obtain ⟨n0,n1,nE⟩:=I.out
  by_cases il:i<s.size
  ·have ili:(i:Int)<(s.size:Int):=by omega
   have ib:(i:Int)≤140737488355328:=by have:=HL.out;have:=SX.out;omega
   have dg:=HD.out i (by have:=SX.out;omega)
   have ST:=dN_step (n:=n) (by have:=SX.out;omega:i<xs.length) dg
   obtain ⟨x,hx⟩:∃x,xs.getD i 0=x:=⟨_,rfl⟩
   have ki:∀h:i<s.size,((s[i]'h).toNat:Int)=x:=fun h=>hx▸HS.out.at i h
   rw [hx] at dg ST
   obtain ⟨x0,x1⟩:=Dr.isD_iff.1 dg
   have NX:=hid (ST.symm.trans nE)
   clear I nE ST dg hx
   by_cases hb:4096<10*n+(x - 48)
   ·rw [Int.min_eq_right (by omega)] at NX
    go_wp2_with fail
    go_roundg (s.size - (i+1))
    case measure=>omega
    case rel=>exact ⟨i+1,4097,by omega,rfl,by go_num,rfl,by omega,by omega,NX.out⟩
   ·rw [Int.min_eq_left (by omega)] at NX
    go_wp2_with fail
    go_roundg (s.size - (i+1))
    case measure=>omega
    case rel=>exact ⟨i+1,_,by omega,rfl,by go_num,rfl,by omega,by omega,NX.out⟩
  ·have ili:¬(i:Int)<(s.size:Int):=by omega
   have E:Hid (n=Dr.dN 0 xs):=by
    rw [List.drop_of_length_le (by have:=SX.out;omega)] at nE
    exact nE
   clear I nE
   go_wp2_with fail
   go_ret
   exact ⟨by rw [←E.out];rfl,rfl⟩
end Go.Proofs.YtbdhlfklcdegdaaGreatDoor

namespace Go.Proofs.YtbdhlfklcdegdaaGreatDoor
open Go Go.RowKit Go.Deep
theorem tab_laid:(Rows.laid_math_bits_deBruijn64tab:DataW Unit)=Lib.tabData .u8 (List.map Int.ofNat Lib.deBruijn64tab):=by kernel_rfl
theorem tab_of {W:World} {rest:List (String × DataW Unit)} (h:laidMet Tryz.prog (("math/bits.deBruijn64tab",Rows.laid_math_bits_deBruijn64tab)::rest) W):Tab W:=by
 rw [tab_laid] at h
 have ht:=Lib.tabIs_of_head (g:=0) (t:=134) (e:=5) (n:=64) (k:=.u8) (zs:=List.map Int.ofNat Lib.deBruijn64tab) (by kernel_rfl) (by kernel_rfl) Tryz.underlying134 Tryz.underlying5 (by kernel_rfl) (by kernel_rfl) h
 intro j hj
 have hl:(List.map Int.ofNat Lib.deBruijn64tab).length=Lib.deBruijn64tab.length:=by simp
 rw [ht.cell (g:=0) (by kernel_rfl) j (by omega)]
 simp [List.getD,hj]
end Go.Proofs.YtbdhlfklcdegdaaGreatDoor

namespace Go.Proofs.YtbdhlfklcdegdaaGreatDoor
open Go Go.RowKit Go.Deep
theorem laid_tail12 {P:Program} {W:World} {x:String × DataW Unit} {rest:List (String × DataW Unit)} (h:laidMet P (x::rest) W):laidMet P rest W:=by
 obtain ⟨ps,⟨g,t,cs,fuel,p,q,_,_,_,_,hr,rfl⟩,hn,hc⟩:=h
 exact ⟨q,hr,(List.nodup_append.1 hn).2.1,fun b off hm=>hc b off (List.mem_append_right _ hm)⟩
theorem pow_laid12:(Rows.laid_internal_strconv_uint64pow10:DataW Unit)=Lib.tabData .u64 Lib.pow10Tab:=by kernel_rfl
theorem tables12 {W:World} {a:String × DataW Unit} {rest:List (String × DataW Unit)} (h:laidMet Tryz.prog (a::("math/bits.deBruijn64tab",Rows.laid_math_bits_deBruijn64tab)::("internal/strconv.uint64pow10",Rows.laid_internal_strconv_uint64pow10)::rest) W):Tab W∧Tab10 W:=by
 have h1:=laid_tail12 h
 have h2:=laid_tail12 h1
 rw [pow_laid12] at h2
 exact ⟨tab_of h1,Lib.tabIs_of_head (g:=1) (t:=233) (e:=24) (n:=20) (by kernel_rfl) (by kernel_rfl) Tryz.underlying233 Tryz.underlying24 (by kernel_rfl) (by kernel_rfl) h2⟩
end Go.Proofs.YtbdhlfklcdegdaaGreatDoor
