/-
  Texts put together: TrimW, S4B, IRoomA.
-/
import Derived.Test.YtbdhlfklcdegdaaGreatDoorWAC
import Derived.Test.YtbdhlfklcdegdaaGreatDoorV0
namespace Go.Proofs.YtbdhlfklcdegdaaGreatDoor
open Go.RowKit Go.Deep
theorem trim_any (p:Option Addr) (n cap:Nat) (zs:List Int) (w:World) (ha:Arg w p n cap zs):
  Calls Tryz.prog 26 #[.slice p n cap] w fun e w'=>∃r os,e=.returned (.slice r (List.length os) (List.length os))∧os=Nm.trim zs∧Ans w.heap.size w' r os (Nm.val zs)∧Below w.heap.size w w':=by
 obtain ⟨a1,a2,a3,a4,a5⟩:=ha
 have tl:=Nm.tsize_le zs
 go_enter Tryz.func26,Tryz.ntmps26
 go_wp2_with fail
 refine (trimmed_any p n cap zs _ a1 a2 (by omega) a4).mono ?_
 rintro e w' ⟨rfl,rfl⟩
 go_wp2_with fail
 refine (widened_any p (Nm.tsize zs) (Nm.tsize zs) 0 0 (Nm.trim zs) _ rfl (Nm.trim_length zs) (by omega) a4.trim).mono ?_
 rintro e w1 ⟨rfl,ho,hb1,hz1⟩
 have HO:=hid ho
 have HB:=hid hb1
 clear ho hb1 hz1 tl
 go_wp2
 go_ret
 refine ⟨some ⟨w'.heap.size,0,none⟩,Nm.trim zs,?_,rfl,⟨?_,a5.trim,?_,Nm.val_trim zs,?_⟩,HB.out⟩
 ·rw [Nm.trim_length];rfl
 ·have:=HO.out
  simp only [List.replicate_zero,List.append_nil] at this
  exact this.lies
 ·rw [Nm.trim_trim,Nm.trim_length]
 ·intro a h
  cases h
  exact Nat.le_refl _
end Go.Proofs.YtbdhlfklcdegdaaGreatDoor

namespace Go.Proofs.YtbdhlfklcdegdaaGreatDoor
open Go Go.RowKit Go.Deep
def S4 (w:World) (b:Nat) (v0 v1 v2 v3:Value):Prop:=w.heap[b]?=some (.cells #[v0,v1,v2,v3] 58 (0,0))
theorem S4.new (w:World) (v0 v1 v2 v3:Value):S4 (w.alloc (.cells #[v0,v1,v2,v3] 58)) w.heap.size v0 v1 v2 v3:=heap_alloc_new w _
theorem S4.lt {w:World} {b:Nat} {v0 v1 v2 v3:Value} (h:S4 w b v0 v1 v2 v3):b<w.heap.size:=by
 rcases Nat.lt_or_ge b w.heap.size with hl | hl
 ·exact hl
 ·simp [S4,Array.getElem?_eq_none hl] at h
theorem S4.below {w w':World} {b:Nat} {v0 v1 v2 v3:Value} (h:S4 w b v0 v1 v2 v3) (hB:Below w.heap.size w w'):S4 w' b v0 v1 v2 v3:=by
 rw [S4,hB.block b h.lt];exact h
theorem S4.cells {w:World} {b:Nat} {v0 v1 v2 v3:Value} (h:S4 w b v0 v1 v2 v3):
  (w.cell? ⟨b,0,none⟩=some v0∧w.cell? ⟨b,1,none⟩=some v1∧w.cell? ⟨b,2,none⟩=some v2∧w.cell? ⟨b,3,none⟩=some v3)∧
  (w.frozen? ⟨b,0,none⟩=false∧w.frozen? ⟨b,1,none⟩=false∧w.frozen? ⟨b,2,none⟩=false∧w.frozen? ⟨b,3,none⟩=false):=by
 simp only [S4] at h
 refine ⟨⟨?_,?_,?_,?_⟩,⟨?_,?_,?_,?_⟩⟩ <;> simp [World.cell?,World.frozen?,h]
theorem S4.far {w:World} {b c o:Nat} {v v0 v1 v2 v3:Value} (h:S4 w b v0 v1 v2 v3) (hc:c≠b):S4 (w.setCell ⟨c,o,none⟩ v) b v0 v1 v2 v3:=by
 simp only [S4] at *
 simp only [World.setCell,Array.getElem?_modify]
 rw [if_neg hc];exact h
structure SB (w0:World) (bx:Nat) (V F W P:Int) (wk:World):Prop where
 bel:Below w0.heap.size w0 wk
 box:S4 wk bx (.int .u8 V) (.int .i64 F) (.int .i64 W) (.int .i64 P)
theorem SB.new (w:World) (V F W P:Int):SB w w.heap.size V F W P (w.alloc (.cells #[.int .u8 V,.int .i64 F,.int .i64 W,.int .i64 P] 58)):=⟨alloc_b w _,S4.new w _ _ _ _⟩
theorem SB.on {w0 wk w':World} {bx:Nat} {V F W P:Int} (h:SB w0 bx V F W P wk) (k:Below wk.heap.size wk w'):SB w0 bx V F W P w':=⟨below_on h.bel k,h.box.below k⟩
theorem SB.drew {w0 wk:World} {bx:Nat} {V F W P:Int} (h:SB w0 bx V F W P wk):SB w0 bx V F W P wk.drew:=⟨h.bel.drew,h.box⟩
theorem SB.flat {w0 wk:World} {bx:Nat} {V F W P:Int} (h:SB w0 bx V F W P wk):wk.cell? ⟨bx,0,none⟩=some (.int .u8 V)∧wk.cell? ⟨bx,1,none⟩=some (.int .i64 F)∧wk.cell? ⟨bx,2,none⟩=some (.int .i64 W)∧wk.cell? ⟨bx,3,none⟩=some (.int .i64 P):=h.box.cells.1
end Go.Proofs.YtbdhlfklcdegdaaGreatDoor

namespace Go.Proofs.YtbdhlfklcdegdaaGreatDoor
open Go Go.RowKit Go.Deep
theorem alloc_below (w:World) (A:Obj):Below w.heap.size w (w.alloc A):=Below.alloc (Below.refl _ _) (Nat.le_refl _) A
end Go.Proofs.YtbdhlfklcdegdaaGreatDoor
