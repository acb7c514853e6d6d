/-
  Texts put together: DLay, DMem, DBld, ZDecA, ZDec.
-/
import Derived.Test.YtbdhlfklcdegdaaGreatDoorWAH
import Derived.Shelf.Strings.Builder1
import Derived.Shelf.Small.Strs
import Derived.Shelf.Strconv.Itoa4
import Derived.Test.YtbdhlfklcdegdaaGreatDoorV0
import Derived.Test.YtbdhlfklcdegdaaGreatDoorWAD
import Derived.Deep.LoopGhost
import Derived.Deep.RegionHeld3
import Derived.Deep.CutBlock
import Derived.OwnWalk
import Derived.Deep.CutRange
import Derived.Test.YtbdhlfklcdegdaaGreatDoorWAI
namespace Go.Proofs.YtbdhlfklcdegdaaGreatDoor
open Go Go.RowKit Go.Deep Go.Shelf
def dren:Go.Shelf.Ren:=⟨fun | 173=>54 | 246=>93 | 283=>148 | 284=>149 | 285=>150 | 286=>151 | 129=>98 | 317=>219 | 318=>220 | 319=>221 | 320=>222 | 337=>261 | 338=>57 | 137=>69 | 217=>103 | 266=>163 | 166=>105 | 169=>106 | 240=>164 | 276=>231 | 167=>104 | 170=>170 | n=>n,fun | 2=>2 | 3=>3 | 9=>9 | 4=>4 | 171=>180 | 0=>0 | 53=>24 | 37=>146 | 5=>5 | 173=>182 | 212=>233 | 51=>234 | 20=>20 | 213=>235 | 46=>133 | 232=>281 | 233=>134 | 70=>145 | 72=>148 | 75=>150 | 80=>154 | 164=>247 | 127=>178 | n=>n,fun | 17=>1 | 18=>3 | 19=>0 | n=>n⟩
theorem dixLays:Go.Proofs.Lays.n137 Tryz.prog dren where
 mixed:=by kernel_rfl
 f137:=Tryz.func69.trans (congrArg some (by kernel_rfl))
 f217:=Tryz.func103.trans (congrArg some (by kernel_rfl))
 f266:=Tryz.func163.trans (congrArg some (by kernel_rfl))
 t3:=by kernel_rfl
 a3:=fun _=>by kernel_rfl
 z3:=fun _=>by kernel_rfl
 v3:=fun _=>by kernel_rfl
 t5:=by kernel_rfl
 a5:=fun _=>by kernel_rfl
 z5:=fun _=>by kernel_rfl
 v5:=fun _=>by kernel_rfl
 t9:=by kernel_rfl
 a9:=fun _=>by kernel_rfl
 z9:=fun _=>by kernel_rfl
 v9:=fun _=>by kernel_rfl
theorem wsLays:Go.Proofs.Lays.n166 Tryz.prog dren where
 mixed:=by kernel_rfl
 f166:=Tryz.func105.trans (congrArg some (by kernel_rfl))
 f240:=Tryz.func164.trans (congrArg some (by kernel_rfl))
 f276:=Tryz.func231.trans (congrArg some (by kernel_rfl))
 t0:=by kernel_rfl
 a0:=fun _=>by kernel_rfl
 z0:=fun _=>by kernel_rfl
 v0:=fun _=>by kernel_rfl
 t3:=by kernel_rfl
 a3:=fun _=>by kernel_rfl
 z3:=fun _=>by kernel_rfl
 v3:=fun _=>by kernel_rfl
 t4:=by kernel_rfl
 a4:=fun _=>by kernel_rfl
 z4:=fun _=>by kernel_rfl
 v4:=fun _=>by kernel_rfl
 t9:=by kernel_rfl
 a9:=fun _=>by kernel_rfl
 z9:=fun _=>by kernel_rfl
 v9:=fun _=>by kernel_rfl
 t20:=by kernel_rfl
 a20:=fun _=>by kernel_rfl
 z20:=fun _=>by kernel_rfl
 v20:=fun _=>by kernel_rfl
 t37:=by kernel_rfl
 a37:=fun _=>by kernel_rfl
 z37:=fun _=>by kernel_rfl
 v37:=fun _=>by kernel_rfl
 t70:=by kernel_rfl
 a70:=fun _=>by kernel_rfl
 z70:=fun _=>by kernel_rfl
 v70:=fun _=>by kernel_rfl
 t72:=by kernel_rfl
 a72:=fun _=>by kernel_rfl
 z72:=fun _=>by kernel_rfl
 v72:=fun _=>by kernel_rfl
 t75:=by kernel_rfl
 a75:=fun _=>by kernel_rfl
 z75:=fun _=>by kernel_rfl
 v75:=fun _=>by kernel_rfl
 t164:=by kernel_rfl
 a164:=fun _=>by kernel_rfl
 z164:=fun _=>by kernel_rfl
 v164:=fun _=>by kernel_rfl
theorem strLays:Go.Proofs.Lays.n169 Tryz.prog dren where
 mixed:=by kernel_rfl
 f169:=Tryz.func106.trans (congrArg some (by kernel_rfl))
 t0:=by kernel_rfl
 a0:=fun _=>by kernel_rfl
 z0:=fun _=>by kernel_rfl
 v0:=fun _=>by kernel_rfl
 t3:=by kernel_rfl
 a3:=fun _=>by kernel_rfl
 z3:=fun _=>by kernel_rfl
 v3:=fun _=>by kernel_rfl
 t9:=by kernel_rfl
 a9:=fun _=>by kernel_rfl
 z9:=fun _=>by kernel_rfl
 v9:=fun _=>by kernel_rfl
 t37:=by kernel_rfl
 a37:=fun _=>by kernel_rfl
 z37:=fun _=>by kernel_rfl
 v37:=fun _=>by kernel_rfl
 t70:=by kernel_rfl
 a70:=fun _=>by kernel_rfl
 z70:=fun _=>by kernel_rfl
 v70:=fun _=>by kernel_rfl
 t72:=by kernel_rfl
 a72:=fun _=>by kernel_rfl
 z72:=fun _=>by kernel_rfl
 v72:=fun _=>by kernel_rfl
 t127:=by kernel_rfl
 a127:=fun _=>by kernel_rfl
 z127:=fun _=>by kernel_rfl
 v127:=fun _=>by kernel_rfl
theorem wbLays:Go.Proofs.Lays.n167 Tryz.prog dren where
 mixed:=by kernel_rfl
 f167:=Tryz.func104.trans (congrArg some (by kernel_rfl))
 f240:=Tryz.func164.trans (congrArg some (by kernel_rfl))
 f276:=Tryz.func231.trans (congrArg some (by kernel_rfl))
 t0:=by kernel_rfl
 a0:=fun _=>by kernel_rfl
 z0:=fun _=>by kernel_rfl
 v0:=fun _=>by kernel_rfl
 t4:=by kernel_rfl
 a4:=fun _=>by kernel_rfl
 z4:=fun _=>by kernel_rfl
 v4:=fun _=>by kernel_rfl
 t5:=by kernel_rfl
 a5:=fun _=>by kernel_rfl
 z5:=fun _=>by kernel_rfl
 v5:=fun _=>by kernel_rfl
 t9:=by kernel_rfl
 a9:=fun _=>by kernel_rfl
 z9:=fun _=>by kernel_rfl
 v9:=fun _=>by kernel_rfl
 t20:=by kernel_rfl
 a20:=fun _=>by kernel_rfl
 z20:=fun _=>by kernel_rfl
 v20:=fun _=>by kernel_rfl
 t37:=by kernel_rfl
 a37:=fun _=>by kernel_rfl
 z37:=fun _=>by kernel_rfl
 v37:=fun _=>by kernel_rfl
 t70:=by kernel_rfl
 a70:=fun _=>by kernel_rfl
 z70:=fun _=>by kernel_rfl
 v70:=fun _=>by kernel_rfl
 t72:=by kernel_rfl
 a72:=fun _=>by kernel_rfl
 z72:=fun _=>by kernel_rfl
 v72:=fun _=>by kernel_rfl
 t75:=by kernel_rfl
 a75:=fun _=>by kernel_rfl
 z75:=fun _=>by kernel_rfl
 v75:=fun _=>by kernel_rfl
 t164:=by kernel_rfl
 a164:=fun _=>by kernel_rfl
 z164:=fun _=>by kernel_rfl
 v164:=fun _=>by kernel_rfl
theorem fiLays:Go.Proofs.LaysM.n173 Tryz.prog dren where
 mixed:=by kernel_rfl
 f129:=Tryz.func98.trans (congrArg some (by kernel_rfl))
 f173:=Tryz.func54.trans (congrArg some (by kernel_rfl))
 f246:=Tryz.func93.trans (congrArg some (by kernel_rfl))
 f283:=Tryz.func148.trans (congrArg some (by kernel_rfl))
 f284:=Tryz.func149.trans (congrArg some (by kernel_rfl))
 f285:=Tryz.func150.trans (congrArg some (by kernel_rfl))
 f286:=Tryz.func151.trans (congrArg some (by kernel_rfl))
 f317:=Tryz.func219.trans (congrArg some (by kernel_rfl))
 f318:=Tryz.func220.trans (congrArg some (by kernel_rfl))
 f319:=Tryz.func221.trans (congrArg some (by kernel_rfl))
 f320:=Tryz.func222.trans (congrArg some (by kernel_rfl))
 f337:=Tryz.func261.trans (congrArg some (by kernel_rfl))
 f338:=Tryz.func57.trans (congrArg some (by kernel_rfl))
 t0:=by kernel_rfl
 a0:=fun _=>by kernel_rfl
 z0:=fun _=>by kernel_rfl
 v0:=fun _=>by kernel_rfl
 t2:=by kernel_rfl
 a2:=fun _=>by kernel_rfl
 z2:=fun _=>by kernel_rfl
 v2:=fun _=>by kernel_rfl
 t3:=by kernel_rfl
 a3:=fun _=>by kernel_rfl
 z3:=fun _=>by kernel_rfl
 v3:=fun _=>by kernel_rfl
 t4:=by kernel_rfl
 a4:=fun _=>by kernel_rfl
 z4:=fun _=>by kernel_rfl
 v4:=fun _=>by kernel_rfl
 t5:=by kernel_rfl
 a5:=fun _=>by kernel_rfl
 z5:=fun _=>by kernel_rfl
 v5:=fun _=>by kernel_rfl
 t9:=by kernel_rfl
 a9:=fun _=>by kernel_rfl
 z9:=fun _=>by kernel_rfl
 v9:=fun _=>by kernel_rfl
 t20:=by kernel_rfl
 a20:=fun _=>by kernel_rfl
 z20:=fun _=>by kernel_rfl
 v20:=fun _=>by kernel_rfl
 t37:=by kernel_rfl
 a37:=fun _=>by kernel_rfl
 z37:=fun _=>by kernel_rfl
 v37:=fun _=>by kernel_rfl
 t46:=by kernel_rfl
 a46:=fun _=>by kernel_rfl
 z46:=fun _=>by kernel_rfl
 v46:=fun _=>by kernel_rfl
 t51:=by kernel_rfl
 a51:=fun _=>by kernel_rfl
 z51:=fun _=>by kernel_rfl
 v51:=fun _=>by kernel_rfl
 t53:=by kernel_rfl
 a53:=fun _=>by kernel_rfl
 z53:=fun _=>by kernel_rfl
 v53:=fun _=>by kernel_rfl
 t171:=by kernel_rfl
 a171:=fun _=>by kernel_rfl
 z171:=fun _=>by kernel_rfl
 v171:=fun _=>by kernel_rfl
 t173:=by kernel_rfl
 a173:=fun _=>by kernel_rfl
 z173:=fun _=>by kernel_rfl
 v173:=fun _=>by kernel_rfl
 t212:=by kernel_rfl
 a212:=fun _=>by kernel_rfl
 z212:=fun _=>by kernel_rfl
 v212:=fun _=>by kernel_rfl
 t213:=by kernel_rfl
 a213:=fun _=>by kernel_rfl
 z213:=fun _=>by kernel_rfl
 t232:=by kernel_rfl
 a232:=fun _=>by kernel_rfl
 z232:=fun _=>by kernel_rfl
 v232:=fun _=>by kernel_rfl
 t233:=by kernel_rfl
 a233:=fun _=>by kernel_rfl
 z233:=fun _=>by kernel_rfl
 v233:=fun _=>by kernel_rfl
 g17:=by kernel_rfl
 g18:=by kernel_rfl
 g19:=by kernel_rfl
 i0:=by kernel_rfl
 i2:=by kernel_rfl
 i3:=by kernel_rfl
 i4:=by kernel_rfl
 i5:=by kernel_rfl
 i9:=by kernel_rfl
 i20:=by kernel_rfl
 i37:=by kernel_rfl
 i46:=by kernel_rfl
 i51:=by kernel_rfl
 i53:=by kernel_rfl
 i171:=by kernel_rfl
 i173:=by kernel_rfl
 i212:=by kernel_rfl
 i232:=by kernel_rfl
 i233:=by kernel_rfl
 m17:=by kernel_rfl
 m18:=by kernel_rfl
 m19:=by kernel_rfl
theorem bExtra:Builder.Extra Tryz.prog dren where
 sizeBuilder:=by kernel_rfl
 liesBuilder:=by kernel_rfl
 t5:=by kernel_rfl
 a5:=fun _=>by kernel_rfl
 z5:=fun _=>by kernel_rfl
 v5:=fun _=>by kernel_rfl
 infoByte:=by kernel_rfl
 cellsByte:=by kernel_rfl
 sizeByte:=by kernel_rfl
 neB5:=by decide
end Go.Proofs.YtbdhlfklcdegdaaGreatDoor

namespace Go.Proofs.YtbdhlfklcdegdaaGreatDoor
open Go Go.RowKit Go.Deep Go.Shelf
structure Oth (g:Nat) (w w':World):Prop where
 os:w'.os=w.os
 tape:w'.tape=w.tape
 output:w'.output=w.output
 size:w.heap.size≤w'.heap.size
 block:∀j,j<w.heap.size→j≠g→w'.heap[j]?=w.heap[j]?
theorem Oth.refl (g:Nat) (w:World):Oth g w w:=⟨rfl,rfl,rfl,Nat.le_refl _,fun _ _ _=>rfl⟩
theorem Oth.trans {g:Nat} {a b c:World} (h:Oth g a b) (k:Oth g b c):Oth g a c:=
 ⟨k.os.trans h.os,k.tape.trans h.tape,k.output.trans h.output,Nat.le_trans h.size k.size,fun i hi hs=>(k.block i (Nat.lt_of_lt_of_le hi h.size) hs).trans (h.block i hi hs)⟩
theorem Oth.of_below {g:Nat} {a b:World} (h:Below a.heap.size a b):Oth g a b:=⟨h.os,h.tape,h.output,h.size,fun i hi _=>h.block i hi⟩
theorem Oth.below {g B:Nat} {a b:World} (h:Oth g a b) (hg:B≤g) (hB:B≤a.heap.size):Below B a b:=⟨h.os,h.tape,h.output,h.size,fun i hi=>h.block i (by omega) (by omega)⟩
theorem Oth.set {w:World} {g:Nat} (i:Nat) (v:Value):Oth g w (w.setCell ⟨g,i,none⟩ v):=by
 refine ⟨rfl,rfl,rfl,by simp [World.setCell],fun j _ hne=>?_⟩
 simp only [World.setCell,Array.getElem?_modify]
 rw [if_neg (fun h=>hne h.symm)]
def RB (w:World) (b:Nat) (s:ByteArray) (k:Nat):Prop:=w.heap[b]?=some (.cells #[.string s,.int .i64 (k:Int)] 141 (0,0))
theorem RB.cells {w:World} {b k:Nat} {s:ByteArray} (h:RB w b s k):
  (w.cell? ⟨b,0,none⟩=some (.string s)∧w.cell? ⟨b,1,none⟩=some (.int .i64 (k:Int)))∧w.frozen? ⟨b,1,none⟩=false:=by
 simp only [RB] at h
 refine ⟨⟨?_,?_⟩,?_⟩ <;> simp [World.cell?,World.frozen?,h]
theorem RB.lt {w:World} {b k:Nat} {s:ByteArray} (h:RB w b s k):b<w.heap.size:=by
 rcases Nat.lt_or_ge b w.heap.size with hl | hl
 ·exact hl
 ·simp [RB,Array.getElem?_eq_none hl] at h
theorem RB.below {w w':World} {b k:Nat} {s:ByteArray} (h:RB w b s k) (hB:Below w.heap.size w w'):RB w' b s k:=by
 rw [RB,hB.block b h.lt];exact h
theorem RB.set {w:World} {b k:Nat} {s:ByteArray} (h:RB w b s k) {j:Nat} {v:Int} (e:v=(j:Int)):RB (w.setCell ⟨b,1,none⟩ (.int .i64 v)) b s j:=by
 subst e
 simp only [RB] at *
 simp [World.setCell,Array.getElem?_modify,h]
theorem RB.new (w:World) (s:ByteArray):RB (w.alloc (.cells #[.string s,.int .i64 0] 141)) w.heap.size s 0:=heap_alloc_new w _
theorem idx_lib (l:List UInt8) (c:UInt8):Lib.indexByte l c=Dr.idx (l.map fun b=>(b.toNat:Int)) (c.toNat:Int):=by
 induction l with
 | nil=>rfl
 | cons b l ih=>
  rw [Lib.indexByte,List.map_cons,Dr.idx,←ih]
  have h:=Lib.indexByte_ge l c
  by_cases e:b=c
  ·subst e;simp
  ·have e1:¬(b == c)=true:=by simpa using e
   have e2:¬(b.toNat:Int)=(c.toNat:Int):=fun h=>e (UInt8.toNat_inj.1 (by omega))
   rw [if_neg e1,if_neg e2]
   by_cases k:Lib.indexByte l c=-1
   ·have k1:(Lib.indexByte l c == -1)=true:=by simpa using k
    rw [if_pos k1,if_pos (show Lib.indexByte l c<0 by omega)]
   ·have k1:¬(Lib.indexByte l c == -1)=true:=by simpa using k
    rw [if_neg k1,if_neg (show ¬Lib.indexByte l c<0 by omega)]
theorem idx_any (s:ByteArray) (xs:List Int) (c:Int) (w:World) (hs:Str s xs) (h0:0≤c) (h1:c<256):
  Calls Tryz.prog 69 #[.string s,.int .u8 c] w fun e w'=>e=.returned (.int .i64 (Dr.idx xs c))∧w'=w:=by
 have h:=Any.strings_IndexByte dixLays s c w
 change Calls Tryz.prog 69 _ _ _ at h
 rw [idx_lib,show ((c.toNat.toUInt8).toNat:Int)=c by
  rw [Nat.toUInt8,UInt8.toNat_ofNat_of_lt' (by show c.toNat<256;omega)];omega] at h
 rw [show s.data.toList.map (fun b=>(b.toNat:Int))=xs from hs] at h
 exact h
set_option maxRecDepth 100000 in
theorem next_any (b k:Nat) (s:ByteArray) (xs:List Int) (w:World) (hs:Str s xs) (hk:k≤xs.length) (h:RB w b s k):
  Calls Tryz.prog 160 #[.pointer (some ⟨b,0,none⟩)] w fun e w'=>e=.returned (.int .u8 (Dr.nx xs k))∧Below w.heap.size w w':=by
 have hsz:=hs.size
 obtain ⟨⟨c0,c1⟩,-⟩:=h.cells
 have D:=hid (below_drewN (Below.refl w.heap.size w))
 by_cases he:k=xs.length
 ·have hx:Hid (Dr.nx xs k=0):=by rw [Hid,he];simp [Dr.nx,List.getD]
  have he2:(k:Int)=(xs.length:Int):=by omega
  clear h hs hk he
  go_enter Tryz.func160,Tryz.ntmps160
  go_upto_region 1 with fail
  go_quiet (fail)
  go_wp2_with fail
  go_ret
  exact ⟨by rw [hx.out];rfl,D.out _⟩
 ·have he2:¬(k:Int)=(xs.length:Int):=by omega
  have hlt:(k:Int)<(xs.length:Int):=by omega
  have hx:∀h:k<s.size,((s[k]'h).toNat:Int)=Dr.nx xs k:=fun h=>hs.at k h
  generalize Dr.nx xs k=x at *
  clear h hs hk he
  go_enter Tryz.func160,Tryz.ntmps160
  go_upto_region 1 with fail
  go_quiet (fail)
  go_wp2_with fail
  go_quiet (fail)
  go_wp2_with fail
  go_ret
  exact ⟨rfl,below_drewN (D.out _) _⟩
end Go.Proofs.YtbdhlfklcdegdaaGreatDoor

namespace Go.Proofs.YtbdhlfklcdegdaaGreatDoor
open Go Go.RowKit Go.Deep Go.Shelf
theorem dstr_cells {s:ByteArray} {xs:List Int} (h:Str s xs):Lib.strCells s=xs.map (Value.int .u8):=by
 rw [←h,List.map_map];rfl
def DIsB (B b:Nat) (zs:List Int) (w:World):Prop:=Lib.IsBuilder 148 5 B b (zs.map (Value.int .u8)) w
theorem DIsB.below {B b:Nat} {zs:List Int} {w w':World} (h:DIsB B b zs w) (k:Below w.heap.size w w'):DIsB B b zs w':=by
 have key:∀p,Lib.BuilderAt 148 5 B b p (zs.map (Value.int .u8)) w→Lib.BuilderAt 148 5 B b p (zs.map (Value.int .u8)) w':=by
  rintro p ⟨h1,v,h2,h3,h4⟩
  have hl:b<w.heap.size:=by
   rcases Nat.lt_or_ge b w.heap.size with c | c
   ·exact c
   ·simp [Array.getElem?_eq_none c] at h2
  exact ⟨h1,v,by rw [k.block b hl];exact h2,World.ownsRow.kept (row:=none) h3 ⟨k.os,k.tape,k.output,k.size,fun j hj _=>k.block j hj⟩ (by cases h:Value.ownBlock v <;> simp),h4⟩
 rcases h with h | h
 ·exact .inl (key _ h)
 ·exact .inr (key _ h)
theorem dbwrite_any (B b:Nat) (zs xs:List Int) (s:ByteArray) (w:World) (h:DIsB B b zs w) (hs:Str s xs) (hl:zs.length+xs.length≤16777216) (hB:B≤w.heap.size):Calls Tryz.prog 105 #[.pointer (some ⟨b,0,none⟩),.string s] w fun e w'=>e=.returned (.tuple #[.int .i64 s.size,.nilIface])∧DIsB B b (zs++xs) w'∧Below B w w':=by
 have q:=Any.Builder_WriteString wsLays bExtra B b (zs.map (Value.int .u8)) s w h (by have:=hs.size;rw [List.length_map];omega) hB
 rw [dstr_cells hs,←List.map_append] at q
 refine q.mono ?_
 rintro e w' ⟨rfl,h1,h2⟩
 exact ⟨rfl,.inr h1,h2⟩
theorem dbstr_any (B b:Nat) (zs:List Int) (w:World) (h:DIsB B b zs w) (hz:∀x∈zs,0≤x∧x<256) (hB:B≤w.heap.size):Calls Tryz.prog 106 #[.pointer (some ⟨b,0,none⟩)] w fun e w'=>e=.returned (.string (strOfNums zs))∧Below B w w':=by
 have S:=Str.of_nums hz
 have e1:zs.map (Value.int .u8)=Lib.byteCells (strOfNums zs).data.toList:=by rw [←dstr_cells S];rfl
 have h':Lib.IsBuilder 148 5 B b (Lib.byteCells (strOfNums zs).data.toList) w:=by rw [←e1];exact h
 have q:=Any.Builder_String_any strLays bExtra B b (strOfNums zs).data.toList w h' hB
 have e2:(⟨(strOfNums zs).data.toList.toArray⟩:ByteArray)=strOfNums zs:=by simp
 rw [e2] at q
 exact q
theorem dbbyte_any (B b:Nat) (zs:List Int) (c:Int) (w:World) (h:DIsB B b zs w) (hl:zs.length+1≤16777216) (hB:B≤w.heap.size):Calls Tryz.prog 104 #[.pointer (some ⟨b,0,none⟩),.int .u8 c] w fun e w'=>e=.returned .nilIface∧DIsB B b (zs++[c]) w'∧Below B w w':=by
 have q:=Any.Builder_WriteByte wbLays bExtra B b (zs.map (Value.int .u8)) c w h (by rw [List.length_map];omega) hB
 refine q.mono ?_
 rintro e w' ⟨rfl,h1,h2⟩
 refine ⟨rfl,.inr ?_,h2⟩
 rw [List.map_append];exact h1
end Go.Proofs.YtbdhlfklcdegdaaGreatDoor

namespace Go.Proofs.YtbdhlfklcdegdaaGreatDoor
open Go Go.RowKit Go.Deep
set_option maxRecDepth 100000 in
set_option maxHeartbeats 4000000 in
theorem zdecode_any (d:Int) (w:World) (h0:0≤d) (h1:d<18446744073709551616):
  Calls Tryz.prog 136 #[.int .u64 d] w fun e w'=>e=.returned (partsOf (decide (9223372036854775808≤d)) (Ie.cls d) (Ie.dm d) (Ie.de d))∧Below w.heap.size w w':=by
 obtain ⟨f,hf⟩:∃f,d/4503599627370496%2048=f:=⟨_,rfl⟩
 obtain ⟨y,hy⟩:∃y,d%4503599627370496=y:=⟨_,rfl⟩
 obtain ⟨sv,hs⟩:∃sv,d/9223372036854775808=sv:=⟨_,rfl⟩
 have hf':Ie.fld d=f:=hf
 have fb0:0≤f:=by omega
 have fb1:f<2048:=by omega
 have y0:0≤y:=by omega
 have y1:y<4503599627370496:=by omega
 have sc:(sv=0∧decide (9223372036854775808≤d)=false)∨(sv=1∧decide (9223372036854775808≤d)=true):=by
  rcases (show d<9223372036854775808∨9223372036854775808≤d by omega) with h | h
  ·left;exact ⟨by omega,by simp;omega⟩
  ·right;exact ⟨by omega,by simp;omega⟩
 have hc:Ie.cls d=if f=0 then (if y=0 then 0 else 1) else if f=2047 then (if y=0 then 3 else 4) else 2:=by rw [Ie.cls,hf',hy]
 have hm:Ie.dm d=if Ie.cls d=2 then 4503599627370496+y else if Ie.cls d=1∨Ie.cls d=4 then y else 0:=by rw [Ie.dm,hy]
 have he:Ie.de d=if Ie.cls d=2 then f - 1075 else if Ie.cls d=1 then -1074 else 0:=by rw [Ie.de,hf']
 rcases sc with ⟨hv,sn⟩ | ⟨hv,sn⟩ <;> rw [sn] <;> rw [hv] at hs <;> clear hv sn
 ·by_cases a:f=0
  ·subst a
   by_cases b:y=0
   ·subst b
    rw [if_pos rfl,if_pos rfl] at hc
    rw [hm,he,hc]
    show Calls _ _ _ _ fun e w'=>e=.returned (partsOf _ 0 0 0)∧_
    go_enter Tryz.func136,Tryz.ntmps136
    go_wp2_with fail
    (try simp only [Exit.inBlock,Exit.then])
    refine bodyPost_ret (results_cell_row rfl _ _ w.heap.size 92 _ (0,0) _ rfl (heap_alloc_new _ _) Tryz.underlying92 rfl (by kernel_rfl)) rfl ?_
    exact ⟨rfl,Below.alloc (Below.refl _ _) (Nat.le_refl _) _⟩
   ·have b':(y == 0)=false:=by rw [beq_eq_false_iff_ne];exact b
    rw [if_pos rfl,if_neg b] at hc
    rw [hm,he,hc]
    show Calls _ _ _ _ fun e w'=>e=.returned (partsOf _ 1 y (-1074))∧_
    go_enter Tryz.func136,Tryz.ntmps136
    go_wp2_with fail
    (try simp only [Exit.inBlock,Exit.then])
    refine bodyPost_ret (results_cell_row rfl _ _ w.heap.size 92 _ (0,0) _ rfl (heap_alloc_new _ _) Tryz.underlying92 rfl (by kernel_rfl)) rfl ?_
    exact ⟨rfl,Below.alloc (Below.refl _ _) (Nat.le_refl _) _⟩
  ·have a':(f == 0)=false:=by rw [beq_eq_false_iff_ne];exact a
   have ap:0<f:=by omega
   by_cases a2:f=2047
   ·subst a2
    by_cases b:y=0
    ·subst b
     rw [if_neg a,if_pos rfl,if_pos rfl] at hc
     rw [hm,he,hc]
     show Calls _ _ _ _ fun e w'=>e=.returned (partsOf _ 3 0 0)∧_
     go_enter Tryz.func136,Tryz.ntmps136
     go_wp2_with fail
     (try simp only [Exit.inBlock,Exit.then])
     refine bodyPost_ret (results_cell_row rfl _ _ w.heap.size 92 _ (0,0) _ rfl (heap_alloc_new _ _) Tryz.underlying92 rfl (by kernel_rfl)) rfl ?_
     exact ⟨rfl,Below.alloc (Below.refl _ _) (Nat.le_refl _) _⟩
    ·have b':(y == 0)=false:=by rw [beq_eq_false_iff_ne];exact b
     rw [if_neg a,if_pos rfl,if_neg b] at hc
     rw [hm,he,hc]
     show Calls _ _ _ _ fun e w'=>e=.returned (partsOf _ 4 y 0)∧_
     go_enter Tryz.func136,Tryz.ntmps136
     go_wp2_with fail
     (try simp only [Exit.inBlock,Exit.then])
     refine bodyPost_ret (results_cell_row rfl _ _ w.heap.size 92 _ (0,0) _ rfl (heap_alloc_new _ _) Tryz.underlying92 rfl (by kernel_rfl)) rfl ?_
     exact ⟨rfl,Below.alloc (Below.refl _ _) (Nat.le_refl _) _⟩
   ·have a2':(f == 2047)=false:=by rw [beq_eq_false_iff_ne];exact a2
    rw [if_neg a,if_neg a2] at hc
    rw [hm,he,hc]
    show Calls _ _ _ _ fun e w'=>e=.returned (partsOf _ 2 (4503599627370496+y) (f - 1075))∧_
    go_enter Tryz.func136,Tryz.ntmps136
    go_wp2_with fail
    (try simp only [Exit.inBlock,Exit.then])
    refine bodyPost_ret (results_cell_row rfl _ _ w.heap.size 92 _ (0,0) _ rfl (heap_alloc_new _ _) Tryz.underlying92 rfl (by kernel_rfl)) rfl ?_
    exact ⟨rfl,Below.alloc (Below.refl _ _) (Nat.le_refl _) _⟩
 ·by_cases a:f=0
  ·subst a
   by_cases b:y=0
   ·subst b
    rw [if_pos rfl,if_pos rfl] at hc
    rw [hm,he,hc]
    show Calls _ _ _ _ fun e w'=>e=.returned (partsOf _ 0 0 0)∧_
    go_enter Tryz.func136,Tryz.ntmps136
    go_wp2_with fail
    (try simp only [Exit.inBlock,Exit.then])
    refine bodyPost_ret (results_cell_row rfl _ _ w.heap.size 92 _ (0,0) _ rfl (heap_alloc_new _ _) Tryz.underlying92 rfl (by kernel_rfl)) rfl ?_
    exact ⟨rfl,Below.alloc (Below.refl _ _) (Nat.le_refl _) _⟩
   ·have b':(y == 0)=false:=by rw [beq_eq_false_iff_ne];exact b
    rw [if_pos rfl,if_neg b] at hc
    rw [hm,he,hc]
    show Calls _ _ _ _ fun e w'=>e=.returned (partsOf _ 1 y (-1074))∧_
    go_enter Tryz.func136,Tryz.ntmps136
    go_wp2_with fail
    (try simp only [Exit.inBlock,Exit.then])
    refine bodyPost_ret (results_cell_row rfl _ _ w.heap.size 92 _ (0,0) _ rfl (heap_alloc_new _ _) Tryz.underlying92 rfl (by kernel_rfl)) rfl ?_
    exact ⟨rfl,Below.alloc (Below.refl _ _) (Nat.le_refl _) _⟩
  ·have a':(f == 0)=false:=by rw [beq_eq_false_iff_ne];exact a
   have ap:0<f:=by omega
   by_cases a2:f=2047
   ·subst a2
    by_cases b:y=0
    ·subst b
     rw [if_neg a,if_pos rfl,if_pos rfl] at hc
     rw [hm,he,hc]
     show Calls _ _ _ _ fun e w'=>e=.returned (partsOf _ 3 0 0)∧_
     go_enter Tryz.func136,Tryz.ntmps136
     go_wp2_with fail
     (try simp only [Exit.inBlock,Exit.then])
     refine bodyPost_ret (results_cell_row rfl _ _ w.heap.size 92 _ (0,0) _ rfl (heap_alloc_new _ _) Tryz.underlying92 rfl (by kernel_rfl)) rfl ?_
     exact ⟨rfl,Below.alloc (Below.refl _ _) (Nat.le_refl _) _⟩
    ·have b':(y == 0)=false:=by rw [beq_eq_false_iff_ne];exact b
     rw [if_neg a,if_pos rfl,if_neg b] at hc
     rw [hm,he,hc]
     show Calls _ _ _ _ fun e w'=>e=.returned (partsOf _ 4 y 0)∧_
     go_enter Tryz.func136,Tryz.ntmps136
     go_wp2_with fail
     (try simp only [Exit.inBlock,Exit.then])
     refine bodyPost_ret (results_cell_row rfl _ _ w.heap.size 92 _ (0,0) _ rfl (heap_alloc_new _ _) Tryz.underlying92 rfl (by kernel_rfl)) rfl ?_
     exact ⟨rfl,Below.alloc (Below.refl _ _) (Nat.le_refl _) _⟩
   ·have a2':(f == 2047)=false:=by rw [beq_eq_false_iff_ne];exact a2
    rw [if_neg a,if_neg a2] at hc
    rw [hm,he,hc]
    show Calls _ _ _ _ fun e w'=>e=.returned (partsOf _ 2 (4503599627370496+y) (f - 1075))∧_
    go_enter Tryz.func136,Tryz.ntmps136
    go_wp2_with fail
    (try simp only [Exit.inBlock,Exit.then])
    refine bodyPost_ret (results_cell_row rfl _ _ w.heap.size 92 _ (0,0) _ rfl (heap_alloc_new _ _) Tryz.underlying92 rfl (by kernel_rfl)) rfl ?_
    exact ⟨rfl,Below.alloc (Below.refl _ _) (Nat.le_refl _) _⟩
end Go.Proofs.YtbdhlfklcdegdaaGreatDoor

namespace Go.Proofs.YtbdhlfklcdegdaaGreatDoor
open Go Go.RowKit Go.Deep
set_option maxRecDepth 100000 in
theorem zabs_any (d:Int) (w:World) (h0:0≤d) (h1:d<18446744073709551616):
  Calls Tryz.prog 77 #[.int .u64 d] w fun e w'=>e=.returned (.int .u64 (d%9223372036854775808))∧w'=w:=by
 go_enter Tryz.func77,Tryz.ntmps77
 go_wp2
 go_ret
 exact ⟨rfl,rfl⟩
set_option maxRecDepth 100000 in
theorem zfinite_any (d:Int) (w:World) (h0:0≤d) (h1:d<18446744073709551616):
  Calls Tryz.prog 135 #[.int .u64 d] w fun e w'=>e=.returned (.bool (decide (d%9223372036854775808<9218868437227405312)))∧w'=w:=by
 have A:=hid (zabs_any d w h0 h1)
 go_enter Tryz.func135,Tryz.ntmps135
 go_wp2_with fail
 refine A.out.mono ?_
 rintro e w' ⟨rfl,rfl⟩
 go_wp2_with fail
 go_ret
 exact ⟨rfl,rfl⟩
end Go.Proofs.YtbdhlfklcdegdaaGreatDoor
