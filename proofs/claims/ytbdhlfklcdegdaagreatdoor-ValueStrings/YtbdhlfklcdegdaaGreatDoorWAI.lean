/-
  Texts put together: IBit, IWalk1C, IWalk1B, IDec, IKinds, IIntgN, VaN, FDec, ZPut, IWholeT.
-/
import Derived.Test.YtbdhlfklcdegdaaGreatDoorWAC
import Derived.Laws.BitsAllLaws
import Derived.Laws.Rows
import Derived.Test.YtbdhlfklcdegdaaGreatDoorWAE
namespace Go.Proofs.YtbdhlfklcdegdaaGreatDoor
open Go
namespace Ib
theorem sign_and (d:Int) (h0:0≤d) (h1:d<18446744073709551616):bits .and .u64 d 9223372036854775808=d/9223372036854775808*9223372036854775808:=by
 obtain ⟨a,rfl⟩:=Int.eq_ofNat_of_zero_le h0
 have h:=u64_and_nat a 9223372036854775808 (by omega) (by omega)
 rw [show ((9223372036854775808:Nat):Int)=9223372036854775808 from rfl] at h
 rw [h,show (9223372036854775808:Nat)=2^63 from rfl,nat_bit]
 omega
theorem frac_and (d:Int) (h0:0≤d) (h1:d<18446744073709551616):bits .and .u64 d 4503599627370495=d%4503599627370496:=by
 obtain ⟨a,rfl⟩:=Int.eq_ofNat_of_zero_le h0
 have h:=u64_and_nat a 4503599627370495 (by omega) (by omega)
 rw [show ((4503599627370495:Nat):Int)=4503599627370495 from rfl] at h
 rw [h,nat_mask52]
 omega
theorem field_and (d:Int) (h0:0≤d) (h1:d<18446744073709551616):bits .and .u64 d 2047=d%2048:=by
 obtain ⟨a,rfl⟩:=Int.eq_ofNat_of_zero_le h0
 have h:=u64_and_nat a 2047 (by omega) (by omega)
 rw [show ((2047:Nat):Int)=2047 from rfl] at h
 rw [h,nat_mask11]
 omega
theorem hidden_or (d:Int) (h0:0≤d) (h1:d<4503599627370496):bits .or .u64 4503599627370496 d=4503599627370496+d:=by
 obtain ⟨a,rfl⟩:=Int.eq_ofNat_of_zero_le h0
 have h:=u64_or_nat 4503599627370496 a (by omega) (by omega)
 rw [show ((4503599627370496:Nat):Int)=4503599627370496 from rfl] at h
 rw [h,nat_join 52 _ _ (by decide) (by omega)]
 omega
theorem field_or (d f:Int) (h0:0≤d) (h1:d<4503599627370496) (f0:0≤f) (f1:f<4096):bits .or .u64 d (f*4503599627370496)=d+f*4503599627370496:=by
 obtain ⟨a,rfl⟩:=Int.eq_ofNat_of_zero_le h0
 obtain ⟨b,rfl⟩:=Int.eq_ofNat_of_zero_le f0
 have h:=u64_or_nat a (b*4503599627370496) (by omega) (by omega)
 rw [show ((b*4503599627370496:Nat):Int)=(b:Int)*4503599627370496 by omega] at h
 rw [h,Nat.or_comm,nat_join 52 _ _ (by omega) (by omega)]
 omega
theorem sign_andNot (d:Int) (h0:0≤d) (h1:d<18446744073709551616):bits .andNot .u64 d 9223372036854775808=d%9223372036854775808:=by
 obtain ⟨a,rfl⟩:=Int.eq_ofNat_of_zero_le h0
 have h:=u64_andNot_nat a 9223372036854775808 (by omega) (by omega)
 rw [show ((9223372036854775808:Nat):Int)=9223372036854775808 from rfl] at h
 rw [h,show (18446744073709551615 - 9223372036854775808:Nat)=2^63 - 1 from rfl,Nat.and_two_pow_sub_one_eq_mod]
 omega
end Ib
end Go.Proofs.YtbdhlfklcdegdaaGreatDoor

namespace Go.Proofs.YtbdhlfklcdegdaaGreatDoor
open Go Go.RowKit Go.Deep
namespace Ie
def fld (d:Int):Int:=d/4503599627370496%2048
def cls (d:Int):Int:=
 if fld d=0 then (if d%4503599627370496=0 then 0 else 1)
 else if fld d=2047 then (if d%4503599627370496=0 then 3 else 4) else 2
end Ie
theorem i_retI {a b:Int} (h:a=b):Ending.returned (.int .i64 a)=.returned (.int .i64 b):=by rw [h]
def Ie.sg (neg:Bool) (x:Int):Int:=if neg=true then x+9223372036854775808 else x
def Ie.ng (d:Int):Int:=if d<9223372036854775808 then d+9223372036854775808 else d - 9223372036854775808
end Go.Proofs.YtbdhlfklcdegdaaGreatDoor

namespace Go.Proofs.YtbdhlfklcdegdaaGreatDoor
open Go Go.RowKit Go.Deep
set_option maxRecDepth 100000 in
set_option maxHeartbeats 1000000 in
theorem field_any (d:Int) (w:World) (h0:0≤d) (h1:d<18446744073709551616):
  Calls Tryz.prog 95 #[.int .u64 d] w fun e w'=>e=.returned (.int .i64 (Ie.fld d))∧w'=w:=by
 obtain ⟨q,hq⟩:∃q,d/4503599627370496=q:=⟨_,rfl⟩
 have q0:0≤q:=by omega
 have q1:q<18446744073709551616:=by omega
 have B:=Ib.field_and q q0 q1
 have E:Hid (Ie.fld d=q%2048):=by rw [Hid,Ie.fld,hq]
 have m0:0≤q%2048:=by omega
 have m1:q%2048≤2047:=by omega
 go_enter Tryz.func95,Tryz.ntmps95
 go_wp2
 go_ret
 exact ⟨i_retI E.out.symm,rfl⟩
set_option maxRecDepth 100000 in
set_option maxHeartbeats 1000000 in
theorem class_any (d:Int) (w:World) (h0:0≤d) (h1:d<18446744073709551616):
  Calls Tryz.prog 94 #[.int .u64 d] w fun e w'=>e=.returned (.int .i64 (Ie.cls d))∧w'=w:=by
 have B:=Ib.frac_and d h0 h1
 have F:=hid (field_any d w h0 h1)
 obtain ⟨f,hf⟩:∃f,Ie.fld d=f:=⟨_,rfl⟩
 rw [hf] at F
 have f0:0≤f∧f<2048:=by rw [←hf];simp only [Ie.fld];omega
 by_cases hz:d%4503599627370496=0
 ·by_cases e1:f=0
  ·subst e1
   have E:Hid (Ie.cls d=0):=by rw [Hid,Ie.cls,if_pos hf,if_pos hz]
   clear hf f0
   go_enter Tryz.func94,Tryz.ntmps94
   go_wp2_with fail
   refine F.out.mono ?_
   rintro e w' ⟨rfl,rfl⟩
   go_wp2_with fail
   go_ret
   exact ⟨i_retI E.out.symm,rfl⟩
  ·by_cases e2:f=2047
   ·subst e2
    have E:Hid (Ie.cls d=3):=by rw [Hid,Ie.cls,if_neg (by omega),if_pos hf,if_pos hz]
    clear hf f0 e1
    go_enter Tryz.func94,Tryz.ntmps94
    go_wp2_with fail
    refine F.out.mono ?_
    rintro e w' ⟨rfl,rfl⟩
    go_wp2_with fail
    go_ret
    exact ⟨i_retI E.out.symm,rfl⟩
   ·have E:Hid (Ie.cls d=2):=by rw [Hid,Ie.cls,if_neg (by omega),if_neg (by omega)]
    have e1':(f == 0)=false:=by rw [beq_eq_false_iff_ne];exact e1
    have e2':(f == 2047)=false:=by rw [beq_eq_false_iff_ne];exact e2
    clear hf f0
    go_enter Tryz.func94,Tryz.ntmps94
    go_wp2_with fail
    refine F.out.mono ?_
    rintro e w' ⟨rfl,rfl⟩
    go_wp2_with fail
    go_ret
    exact ⟨i_retI E.out.symm,rfl⟩
 ·have hz':(d%4503599627370496 == 0)=false:=by rw [beq_eq_false_iff_ne];exact hz
  by_cases e1:f=0
  ·subst e1
   have E:Hid (Ie.cls d=1):=by rw [Hid,Ie.cls,if_pos hf,if_neg hz]
   clear hf f0
   go_enter Tryz.func94,Tryz.ntmps94
   go_wp2_with fail
   refine F.out.mono ?_
   rintro e w' ⟨rfl,rfl⟩
   go_wp2_with fail
   go_ret
   exact ⟨i_retI E.out.symm,rfl⟩
  ·by_cases e2:f=2047
   ·subst e2
    have E:Hid (Ie.cls d=4):=by rw [Hid,Ie.cls,if_neg (by omega),if_pos hf,if_neg hz]
    clear hf f0 e1
    go_enter Tryz.func94,Tryz.ntmps94
    go_wp2_with fail
    refine F.out.mono ?_
    rintro e w' ⟨rfl,rfl⟩
    go_wp2_with fail
    go_ret
    exact ⟨i_retI E.out.symm,rfl⟩
   ·have E:Hid (Ie.cls d=2):=by rw [Hid,Ie.cls,if_neg (by omega),if_neg (by omega)]
    have e1':(f == 0)=false:=by rw [beq_eq_false_iff_ne];exact e1
    have e2':(f == 2047)=false:=by rw [beq_eq_false_iff_ne];exact e2
    clear hf f0
    go_enter Tryz.func94,Tryz.ntmps94
    go_wp2_with fail
    refine F.out.mono ?_
    rintro e w' ⟨rfl,rfl⟩
    go_wp2_with fail
    go_ret
    exact ⟨i_retI E.out.symm,rfl⟩
end Go.Proofs.YtbdhlfklcdegdaaGreatDoor

namespace Go.Proofs.YtbdhlfklcdegdaaGreatDoor
open Go Go.RowKit Go.Deep
namespace Ie
def dm (d:Int):Int:=if cls d=2 then 4503599627370496+d%4503599627370496 else if cls d=1∨cls d=4 then d%4503599627370496 else 0
def de (d:Int):Int:=if cls d=2 then fld d - 1075 else if cls d=1 then -1074 else 0
theorem cls_cases (d:Int):cls d=0∨cls d=1∨cls d=2∨cls d=3∨cls d=4:=by
 simp only [cls];split <;> split <;> (try split) <;> omega
theorem fld_bd (d:Int):0≤fld d∧fld d<2048:=by simp only [fld];omega
end Ie
def partsOf (neg:Bool) (c m e:Int):Value:=.agg #[.bool neg,.int .i64 c,.int .u64 m,.int .i64 e]
theorem ret_parts {n n':Bool} {c c' m m' e e':Int} (h0:n=n') (h1:c=c') (h2:m=m') (h3:e=e'):Ending.returned (partsOf n c m e)=.returned (partsOf n' c' m' e'):=by rw [h0,h1,h2,h3]
theorem twice_alloc (w:World) (A B:Obj):Below w.heap.size w ((w.alloc A).alloc B):=by
 have h1:=Below.alloc (w:=w) (Below.refl w.heap.size w) (Nat.le_refl _) A
 exact Below.alloc h1 (by have:=h1.size;omega) B
set_option maxRecDepth 100000 in
set_option maxHeartbeats 4000000 in
theorem decode_any (d:Int) (w:World) (h0:0≤d) (h1:d<18446744073709551616):
  Calls Tryz.prog 55 #[.int .u64 d] w fun e w'=>e=.returned (partsOf (decide (9223372036854775808≤d)) (Ie.cls d) (Ie.dm d) (Ie.de d))∧Below w.heap.size w w':=by
 have B:=Ib.sign_and d h0 h1
 have F:=Ib.frac_and d h0 h1
 have CL:=hid (fun (wx:World)=>class_any d wx h0 h1)
 have FL:=hid (fun (wx:World)=>field_any d wx h0 h1)
 obtain ⟨sv,hsv⟩:∃sv,d/9223372036854775808*9223372036854775808=sv:=⟨_,rfl⟩
 rw [hsv] at B
 obtain ⟨f,hf⟩:∃f,Ie.fld d=f:=⟨_,rfl⟩
 have fb:=Ie.fld_bd d
 obtain ⟨y,hy⟩:∃y,d%4503599627370496=y:=⟨_,rfl⟩
 have y0:0≤y:=by omega
 have y1:y<4503599627370496:=by omega
 rw [hf] at FL fb
 rw [hy] at F
 have O:=Ib.hidden_or y y0 y1
 obtain ⟨fb0,fb1⟩:=fb
 have DM:Hid (Ie.dm d=if Ie.cls d=2 then 4503599627370496+y else if Ie.cls d=1∨Ie.cls d=4 then y else 0):=by rw [Hid,Ie.dm,hy]
 have DE:Hid (Ie.de d=if Ie.cls d=2 then f - 1075 else if Ie.cls d=1 then -1074 else 0):=by rw [Hid,Ie.de,hf]
 have cc:=Ie.cls_cases d
 have sc:(sv=0∧decide (9223372036854775808≤d)=false)∨(sv=9223372036854775808∧decide (9223372036854775808≤d)=true):=by
  rcases (show d<9223372036854775808∨9223372036854775808≤d by omega) with h | h
  ·left;exact ⟨by omega,by simp;omega⟩
  ·right;exact ⟨by omega,by simp;omega⟩
 rcases sc with ⟨rfl,sn⟩ | ⟨rfl,sn⟩ <;> rw [sn] <;> rcases cc with hc | hc | hc | hc | hc <;> rw [hc] at CL DM DE ⊢ <;> clear hsv hf hy hc sn
 ·go_enter Tryz.func55,Tryz.ntmps55
  go_wp2_with fail
  refine (CL.out _).mono ?_
  rintro e w' ⟨rfl,rfl⟩
  go_wp2_with fail
  (try simp only [Exit.inBlock,Exit.then])
  refine bodyPost_ret (results_cell_row rfl _ _ w.heap.size 92 _ (0,0) _ rfl (heap_alloc2_old _ _ _) Tryz.underlying92 rfl (by kernel_rfl)) rfl ?_
  exact ⟨ret_parts rfl rfl (by rw [DM.out];rfl) (by rw [DE.out];first | rfl | (show _=f - 1075;omega)),twice_alloc _ _ _⟩
 ·go_enter Tryz.func55,Tryz.ntmps55
  go_wp2_with fail
  refine (CL.out _).mono ?_
  rintro e w' ⟨rfl,rfl⟩
  go_wp2_with fail
  (try simp only [Exit.inBlock,Exit.then])
  refine bodyPost_ret (results_cell_row rfl _ _ w.heap.size 92 _ (0,0) _ rfl (heap_alloc2_old _ _ _) Tryz.underlying92 rfl (by kernel_rfl)) rfl ?_
  exact ⟨ret_parts rfl rfl (by rw [DM.out];rfl) (by rw [DE.out];first | rfl | (show _=f - 1075;omega)),twice_alloc _ _ _⟩
 ·go_enter Tryz.func55,Tryz.ntmps55
  go_wp2_with fail
  refine (CL.out _).mono ?_
  rintro e w' ⟨rfl,rfl⟩
  go_wp2_with fail
  refine (FL.out _).mono ?_
  rintro e w' ⟨rfl,rfl⟩
  go_wp2_with fail
  (try simp only [Exit.inBlock,Exit.then])
  refine bodyPost_ret (results_cell_row rfl _ _ w.heap.size 92 _ (0,0) _ rfl (heap_alloc2_old _ _ _) Tryz.underlying92 rfl (by kernel_rfl)) rfl ?_
  exact ⟨ret_parts rfl rfl (by rw [DM.out];rfl) (by rw [DE.out];first | rfl | (show _=f - 1075;omega)),twice_alloc _ _ _⟩
 ·go_enter Tryz.func55,Tryz.ntmps55
  go_wp2_with fail
  refine (CL.out _).mono ?_
  rintro e w' ⟨rfl,rfl⟩
  go_wp2_with fail
  (try simp only [Exit.inBlock,Exit.then])
  refine bodyPost_ret (results_cell_row rfl _ _ w.heap.size 92 _ (0,0) _ rfl (heap_alloc2_old _ _ _) Tryz.underlying92 rfl (by kernel_rfl)) rfl ?_
  exact ⟨ret_parts rfl rfl (by rw [DM.out];rfl) (by rw [DE.out];first | rfl | (show _=f - 1075;omega)),twice_alloc _ _ _⟩
 ·go_enter Tryz.func55,Tryz.ntmps55
  go_wp2_with fail
  refine (CL.out _).mono ?_
  rintro e w' ⟨rfl,rfl⟩
  go_wp2_with fail
  (try simp only [Exit.inBlock,Exit.then])
  refine bodyPost_ret (results_cell_row rfl _ _ w.heap.size 92 _ (0,0) _ rfl (heap_alloc2_old _ _ _) Tryz.underlying92 rfl (by kernel_rfl)) rfl ?_
  exact ⟨ret_parts rfl rfl (by rw [DM.out];rfl) (by rw [DE.out];first | rfl | (show _=f - 1075;omega)),twice_alloc _ _ _⟩
 ·go_enter Tryz.func55,Tryz.ntmps55
  go_wp2_with fail
  refine (CL.out _).mono ?_
  rintro e w' ⟨rfl,rfl⟩
  go_wp2_with fail
  (try simp only [Exit.inBlock,Exit.then])
  refine bodyPost_ret (results_cell_row rfl _ _ w.heap.size 92 _ (0,0) _ rfl (heap_alloc2_old _ _ _) Tryz.underlying92 rfl (by kernel_rfl)) rfl ?_
  exact ⟨ret_parts rfl rfl (by rw [DM.out];rfl) (by rw [DE.out];first | rfl | (show _=f - 1075;omega)),twice_alloc _ _ _⟩
 ·go_enter Tryz.func55,Tryz.ntmps55
  go_wp2_with fail
  refine (CL.out _).mono ?_
  rintro e w' ⟨rfl,rfl⟩
  go_wp2_with fail
  (try simp only [Exit.inBlock,Exit.then])
  refine bodyPost_ret (results_cell_row rfl _ _ w.heap.size 92 _ (0,0) _ rfl (heap_alloc2_old _ _ _) Tryz.underlying92 rfl (by kernel_rfl)) rfl ?_
  exact ⟨ret_parts rfl rfl (by rw [DM.out];rfl) (by rw [DE.out];first | rfl | (show _=f - 1075;omega)),twice_alloc _ _ _⟩
 ·go_enter Tryz.func55,Tryz.ntmps55
  go_wp2_with fail
  refine (CL.out _).mono ?_
  rintro e w' ⟨rfl,rfl⟩
  go_wp2_with fail
  refine (FL.out _).mono ?_
  rintro e w' ⟨rfl,rfl⟩
  go_wp2_with fail
  (try simp only [Exit.inBlock,Exit.then])
  refine bodyPost_ret (results_cell_row rfl _ _ w.heap.size 92 _ (0,0) _ rfl (heap_alloc2_old _ _ _) Tryz.underlying92 rfl (by kernel_rfl)) rfl ?_
  exact ⟨ret_parts rfl rfl (by rw [DM.out];rfl) (by rw [DE.out];first | rfl | (show _=f - 1075;omega)),twice_alloc _ _ _⟩
 ·go_enter Tryz.func55,Tryz.ntmps55
  go_wp2_with fail
  refine (CL.out _).mono ?_
  rintro e w' ⟨rfl,rfl⟩
  go_wp2_with fail
  (try simp only [Exit.inBlock,Exit.then])
  refine bodyPost_ret (results_cell_row rfl _ _ w.heap.size 92 _ (0,0) _ rfl (heap_alloc2_old _ _ _) Tryz.underlying92 rfl (by kernel_rfl)) rfl ?_
  exact ⟨ret_parts rfl rfl (by rw [DM.out];rfl) (by rw [DE.out];first | rfl | (show _=f - 1075;omega)),twice_alloc _ _ _⟩
 ·go_enter Tryz.func55,Tryz.ntmps55
  go_wp2_with fail
  refine (CL.out _).mono ?_
  rintro e w' ⟨rfl,rfl⟩
  go_wp2_with fail
  (try simp only [Exit.inBlock,Exit.then])
  refine bodyPost_ret (results_cell_row rfl _ _ w.heap.size 92 _ (0,0) _ rfl (heap_alloc2_old _ _ _) Tryz.underlying92 rfl (by kernel_rfl)) rfl ?_
  exact ⟨ret_parts rfl rfl (by rw [DM.out];rfl) (by rw [DE.out];first | rfl | (show _=f - 1075;omega)),twice_alloc _ _ _⟩
end Go.Proofs.YtbdhlfklcdegdaaGreatDoor

namespace Go.Proofs.YtbdhlfklcdegdaaGreatDoor
open Go Go.RowKit Go.Deep
namespace Ie
theorem dec_kinds (d:Int):∀r,d%9223372036854775808=r→
  (cls d=0∧dm d=0∧de d=0∧r=0)∨(cls d=1∧dm d=r∧de d=-1074∧0<r∧r<4503599627370496)∨(cls d=2∧dm d=man r∧de d=(ex r:Int) - 1074∧4503599627370496≤r∧r<9218868437227405312) ∨
  (cls d=3∧dm d=0∧de d=0∧r=9218868437227405312)∨(cls d=4∧dm d=r - 9218868437227405312∧de d=0∧9218868437227405312<r∧r<9223372036854775808):=by
 intro r hr
 have hf:fld d=r/4503599627370496:=by simp only [fld];omega
 have hy:d%4503599627370496=r%4503599627370496:=by omega
 have hm:dm d=if cls d=2 then 4503599627370496+r%4503599627370496 else if cls d=1∨cls d=4 then r%4503599627370496 else 0:=by rw [dm,hy]
 have he:de d=if cls d=2 then r/4503599627370496 - 1075 else if cls d=1 then -1074 else 0:=by rw [de,hf]
 have hc:cls d=if r/4503599627370496=0 then (if r%4503599627370496=0 then 0 else 1) else if r/4503599627370496=2047 then (if r%4503599627370496=0 then 3 else 4) else 2:=by rw [cls,hf,hy]
 by_cases a:r/4503599627370496=0
 ·by_cases b:r%4503599627370496=0
  ·rw [if_pos a,if_pos b] at hc
   left;rw [hm,he,hc];exact ⟨rfl,rfl,rfl,by omega⟩
  ·rw [if_pos a,if_neg b] at hc
   right;left;rw [hm,he,hc];exact ⟨rfl,show r%4503599627370496=r by omega,rfl,by omega,by omega⟩
 ·by_cases a2:r/4503599627370496=2047
  ·by_cases b:r%4503599627370496=0
   ·rw [if_neg a,if_pos a2,if_pos b] at hc
    right;right;right;left;rw [hm,he,hc];exact ⟨rfl,rfl,rfl,by omega⟩
   ·rw [if_neg a,if_pos a2,if_neg b] at hc
    right;right;right;right;rw [hm,he,hc];exact ⟨rfl,show r%4503599627370496=_ by omega,rfl,by omega,by omega⟩
  ·rw [if_neg a,if_neg a2] at hc
   right;right;left;rw [hm,he,hc]
   refine ⟨rfl,?_,?_,by omega,by omega⟩
   ·show 4503599627370496+r%4503599627370496=man r
    rw [man,if_neg (by omega)]
   ·show r/4503599627370496 - 1075=(ex r:Int) - 1074
    rw [ex];omega
end Ie
namespace Ie
def whp (r:Int):Int:=vl r/2^1075
theorem whp_low (r:Int) (k:Nat) (h:(ex r:Int)+k=1074):whp r=man r/2^k:=by
 have e1:vl r=man r*2^(ex r+1):=by rw [vl,Nm.two_succ];ac_rfl
 have e2:(2:Int)^1075=2^k*2^(ex r+1):=by rw [←Nm.two_add];congr 1;omega
 rw [whp,e1,e2,Int.mul_ediv_mul_of_pos_left _ _ (Nm.two_pos _)]
theorem whp_high (r:Int) (k:Nat) (h:(ex r:Int)=1074+k):whp r=man r*2^k∧vl r=whp r*2^1075:=by
 have e1:vl r=man r*2^k*2^1075:=by
  have e0:(2:Int)^1075=2*2^1074:=Nm.two_succ 1074
  rw [vl,show ex r=k+1074 by omega,Nm.two_add,e0]
  generalize (2:Int)^1074=P
  generalize (2:Int)^k=Q
  ac_rfl
 have e2:whp r=man r*2^k:=by rw [whp,e1,Int.mul_ediv_cancel _ (by have:=Nm.two_pos 1075;omega)]
 exact ⟨e2,by rw [e2];exact e1⟩
theorem whp_zero:whp 0=0:=by rw [whp,vl_zero,Int.zero_ediv]
end Ie
end Go.Proofs.YtbdhlfklcdegdaaGreatDoor

namespace Go.Proofs.YtbdhlfklcdegdaaGreatDoor
theorem ctz_int (n q t:Nat) (h:n=2^t*(2*q+1)):(n:Int)=2^t*(2*(q:Int)+1):=by
 have e:((2^t*(2*q+1):Nat):Int)=2^t*(2*(q:Int)+1):=by simp
 rw [←e,←h]
namespace Ie
def intg (d:Int):Bool:=decide (d%9223372036854775808<9218868437227405312∧vl (d%9223372036854775808)=whp (d%9223372036854775808)*2^1075)
theorem intg_iff (r m q:Int) (t:Nat) (hm:man r=m) (h:m=2^t*(2*q+1)):(vl r=whp r*2^1075)↔0≤(ex r:Int) - 1074+t:=by
 have e1:vl r=(2*q+1)*2^(t+ex r+1):=by
  rw [vl,hm,h,Nm.two_succ,Nm.two_add];ac_rfl
 constructor
 ·intro he
  rcases (show 0≤(ex r:Int) - 1074+t∨t+ex r+1<1075 by omega) with g | g
  ·exact g
  ·exfalso
   obtain ⟨s,hs⟩:∃s,1075=(s+1)+(t+ex r+1):=⟨1075 - (t+ex r+1) - 1,by omega⟩
   rw [e1,hs,Nm.two_add (s+1),←Int.mul_assoc] at he
   have:=Int.eq_of_mul_eq_mul_right (by have:=Nm.two_pos (t+ex r+1);omega) he
   exact Nm.odd_unique (this.trans (Int.mul_comm _ _))
 ·intro g
  obtain ⟨s,hs⟩:∃s,t+ex r+1=s+1075:=⟨t+ex r+1 - 1075,by omega⟩
  rw [hs,Nm.two_add,←Int.mul_assoc] at e1
  rw [whp,e1,Int.mul_ediv_cancel _ (by have:=Nm.two_pos 1075;omega)]
end Ie
end Go.Proofs.YtbdhlfklcdegdaaGreatDoor

namespace Go.Proofs.YtbdhlfklcdegdaaGreatDoor
namespace Va
open Ie
def ok (d:Int):Bool:=intg d&&decide (d%9223372036854775808<4890909195324358656)
def num (d:Int):Int:=if 9223372036854775808≤d then - whp (d%9223372036854775808) else whp (d%9223372036854775808)
def vi (d:Int):Int:=if ok d=true then num d else 0
theorem two_pos (n:Nat):(0:Int)<2^n:=Int.pow_pos (by omega)
theorem two_add (m n:Nat):(2:Int)^(m+n)=2^m*2^n:=Int.pow_add 2 m n
theorem top_at {a:Int} {p:Nat} (hp:p≤62) (ha:a/4503599627370496=p+1023):vl a=((a%4503599627370496+4503599627370496)*2048)*2^(p+1012)∧(2:Int)^1075=2^(63 - p)*2^(p+1012):=by
 constructor
 ·have h1:¬a<4503599627370496:=by omega
  have h2:ex a=p+1022:=by unfold ex;omega
  rw [vl,man,if_neg h1,h2,show p+1022=10+(p+1012) by omega,two_add,show (2:Int)^10=1024 from rfl]
  generalize (2:Int)^(p+1012)=K
  generalize a%4503599627370496=m
  rw [show 2*(4503599627370496+m)*(1024*K)=((4503599627370496+m)*2048)*K by
   rw [←Int.mul_assoc,Int.mul_comm 2 (4503599627370496+m),Int.mul_assoc (4503599627370496+m) 2 1024];rfl,Int.add_comm 4503599627370496 m]
 ·rw [←two_add,show 63 - p+(p+1012)=1075 by omega]
theorem top_whp {a:Int} {p:Nat} (hp:p≤62) (ha:a/4503599627370496=p+1023):whp a=((a%4503599627370496+4503599627370496)*2048)/2^(63 - p):=by
 obtain ⟨e1,e2⟩:=top_at hp ha
 rw [whp,e1,e2]
 exact Int.mul_ediv_mul_of_pos_left _ _ (two_pos _)
theorem top_intg {a:Int} {p:Nat} (hp:p≤62) (ha:a/4503599627370496=p+1023):vl a=whp a*2^1075↔((a%4503599627370496+4503599627370496)*2048)/2^(63 - p)*2^(63 - p)=(a%4503599627370496+4503599627370496)*2048:=by
 obtain ⟨e1,e2⟩:=top_at hp ha
 rw [top_whp hp ha,e1,e2]
 generalize (a%4503599627370496+4503599627370496)*2048=M
 have k:=two_pos (p+1012)
 generalize (2:Int)^(p+1012)=K at *
 generalize (2:Int)^(63 - p)=B
 rw [←Int.mul_assoc]
 constructor
 ·intro h
  exact (Int.eq_of_mul_eq_mul_right (by omega) h).symm
 ·intro h;rw [h]
theorem low_intg {a:Int} (h0:0<a) (h:a/4503599627370496<1023):¬vl a=whp a*2^1075:=by
 intro q
 have m0:=man_nn a (by omega)
 have hm:0<man a:=by
  unfold man
  split
  ·exact h0
  ·omega
 have he:ex a≤1021:=by unfold ex;omega
 have v0:0<vl a:=Int.mul_pos (by omega) (two_pos _)
 have v1:vl a<2^1075:=by
  have h1:(2:Int)^1075=2^54*(2^ex a*2^(1021 - ex a)):=by rw [←two_add,←two_add,show 54+(ex a+(1021 - ex a))=1075 by omega]
  have h2:(1:Int)≤2^(1021 - ex a):=two_pos _
  have h3:=two_pos (ex a)
  rw [h1,vl]
  have h4:(2:Int)^ex a*1≤2^ex a*2^(1021 - ex a):=Int.mul_le_mul_of_nonneg_left h2 (Int.le_of_lt h3)
  have h5:(2:Int)^54=18014398509481984:=by decide
  rw [h5]
  have h6:2*man a*2^ex a<18014398509481984*2^ex a:=Int.mul_lt_mul_of_pos_right (by omega) h3
  generalize (2:Int)^(1021 - ex a)=X at *
  generalize (2:Int)^ex a=Y at *
  omega
 have w0:whp a=0:=Int.ediv_eq_zero_of_lt (Int.le_of_lt v0) v1
 rw [w0,Int.zero_mul] at q
 omega
theorem zero_intg:vl 0=whp 0*2^1075∧whp 0=0:=by
 have e:vl 0=0:=by unfold vl man;simp
 have w:whp 0=0:=by rw [whp,e];exact Int.zero_ediv _
 exact ⟨by rw [e,w,Int.zero_mul],w⟩
theorem ok_zero {d:Int} (h:d%9223372036854775808=0):ok d=true∧num d=0:=by
 obtain ⟨a,b⟩:=zero_intg
 refine ⟨?_,?_⟩
 ·rw [ok,intg,h,decide_eq_true ⟨by omega,a⟩];rfl
 ·rw [num,h,b];simp
theorem ok_low {d:Int} (h0:0<d%9223372036854775808) (h:d%9223372036854775808/4503599627370496<1023):ok d=false:=by
 rw [ok,intg,decide_eq_false (fun q=>low_intg h0 h q.2)];rfl
theorem ok_high {d:Int} (h:1086≤d%9223372036854775808/4503599627370496):ok d=false:=by
 rw [ok,decide_eq_false (show ¬d%9223372036854775808<4890909195324358656 by omega),Bool.and_false]
theorem ok_mid {d:Int} {p:Nat} (hp:p≤62) (h:d%9223372036854775808/4503599627370496=p+1023):ok d=decide (((d%9223372036854775808%4503599627370496+4503599627370496)*2048)/2^(63 - p)*2^(63 - p)=(d%9223372036854775808%4503599627370496+4503599627370496)*2048):=by
 rw [ok,decide_eq_true (show d%9223372036854775808<4890909195324358656 by omega),Bool.and_true,intg]
 refine decide_eq_decide.2 ?_
 rw [top_intg hp h]
 exact ⟨fun q=>q.2,fun q=>⟨by omega,q⟩⟩
theorem num_mid {d:Int} {p:Nat} (hp:p≤62) (h:d%9223372036854775808/4503599627370496=p+1023):num d=if 9223372036854775808≤d then - (((d%9223372036854775808%4503599627370496+4503599627370496)*2048)/2^(63 - p)) else ((d%9223372036854775808%4503599627370496+4503599627370496)*2048)/2^(63 - p):=by
 rw [num,top_whp hp h]
theorem mid_bd {m:Int} {p:Nat} (hp:p≤62) (h0:0≤m) (h1:m<4503599627370496):0≤((m+4503599627370496)*2048)/2^(63 - p)∧((m+4503599627370496)*2048)/2^(63 - p)<9223372036854775808:=by
 have b:=two_pos (63 - p)
 have b2:(2:Int)≤2^(63 - p):=by
  rw [show 63 - p=1+(62 - p) by omega,two_add]
  have:=two_pos (62 - p)
  rw [show (2:Int)^1=2 from rfl];omega
 refine ⟨Int.ediv_nonneg (by omega) (Int.le_of_lt b),?_⟩
 refine Int.ediv_lt_of_lt_mul b ?_
 generalize (2:Int)^(63 - p)=B at *
 have:9223372036854775808*2≤9223372036854775808*B:=Int.mul_le_mul_of_nonneg_left b2 (by omega)
 omega
end Va
end Go.Proofs.YtbdhlfklcdegdaaGreatDoor

namespace Go.Proofs.YtbdhlfklcdegdaaGreatDoor
open Go Go.RowKit Go.Deep
theorem Ie.fdec (d:Int) (h:Ie.cls d<3):0≤Ie.dm d∧Ie.dm d<9007199254740992∧-1074≤Ie.de d∧Ie.de d≤971∧(Ie.cls d=0↔Ie.dm d=0):=by
 have fb:=Ie.fld_bd d
 unfold Ie.dm Ie.de
 unfold Ie.cls at *
 by_cases a:Ie.fld d=0
 ·rw [if_pos a] at *
  by_cases b:d%4503599627370496=0
  ·simp only [if_pos b]
   simp
  ·simp only [if_neg b]
   simp
   omega
 ·rw [if_neg a] at *
  by_cases b:Ie.fld d=2047
  ·rw [if_pos b] at *
   by_cases c:d%4503599627370496=0
   ·rw [if_pos c] at h;omega
   ·rw [if_neg c] at h;omega
  ·simp only [if_neg b]
   simp
   omega
theorem fretB {a b:Bool} (h:a=b):Ending.returned (.bool a)=.returned (.bool b):=by rw [h]
def Ie.fnt (d:Int):Bool:=decide (Ie.cls d<3)
set_option maxRecDepth 100000 in
theorem ffinite_any (d:Int) (w:World) (h0:0≤d) (h1:d<18446744073709551616):
  Calls Tryz.prog 266 #[.int .u64 d] w fun e w'=>e=.returned (.bool (Ie.fnt d))∧w'=w:=by
 have C:=hid (class_any d w h0 h1)
 have E:Hid (Ie.fnt d=decide (Ie.cls d<3)):=rfl
 generalize Ie.cls d=c at *
 go_enter Tryz.func266,Tryz.ntmps266
 go_wp2_with fail
 refine C.out.mono ?_
 rintro e w' ⟨rfl,rfl⟩
 go_wp2_with fail
 go_ret
 exact ⟨fretB E.out.symm,rfl⟩
end Go.Proofs.YtbdhlfklcdegdaaGreatDoor

namespace Go.Proofs.YtbdhlfklcdegdaaGreatDoor
open Go Go.RowKit Go.Deep
end Go.Proofs.YtbdhlfklcdegdaaGreatDoor

namespace Go.Proofs.YtbdhlfklcdegdaaGreatDoor
open Go Go.RowKit Go.Deep
def WholeTold (d:Int) (w:World) (e:Ending) (w':World):Prop:=
 ∃r os,e=.returned (.tuple #[.bool (decide (9223372036854775808≤d)),.slice r (List.length os) (List.length os),.int .i64 0])∧Ans w.heap.size w' r os (Ie.whp (d%9223372036854775808))∧Below w.heap.size w w'
end Go.Proofs.YtbdhlfklcdegdaaGreatDoor
