/-
  Squeezed.
-/
import Derived.Test.YtbdhlfklcdegdaaGreatDoorWAT
import Derived.Test.YtbdhlfklcdegdaaGreatDoorWAS
import Derived.Laws.Concat
namespace Go.Proofs.YtbdhlfklcdegdaaGreatDoor
open Go Go.RowKit Go.Deep
theorem Str.app {a b:ByteArray} {xs ys:List Int} (h:Str a xs) (k:Str b ys):Str (a++b) (xs++ys):=by
 unfold Str at *
 rw [←h,←k,←List.map_append]
 simp
theorem str_one:Str ⟨#[49]⟩ [49]:=rfl
set_option maxRecDepth 100000 in
set_option maxHeartbeats 2000000 in
theorem kept_any (s:ByteArray) (xs:List Int) (c:Int) (w:World) (hs:Str s xs) (hd:Digs xs) (h0:xs≠[]) (hl:xs.length≤3000) (hc:c≤10000):
  Calls Tryz.prog 239 #[.string s,.int .i64 c] w fun e w'=>∃s',e=.returned (.string s')∧Str s' (Fx.kp xs c)∧Below w.heap.size w w':=by
 by_cases hn:c<0
 ·have F:Hid (Str ⟨#[]⟩ (Fx.kp xs c)):=by rw [Fx.kp_neg hn];rfl
  clear hs hd h0 hl
  go_enter Tryz.func239,Tryz.ntmps239
  go_wp2_with fail
  go_ret
  exact ⟨_,rfl,F.out,Below.refl _ _⟩
 ·obtain ⟨k,rfl⟩:=Int.eq_ofNat_of_zero_le (show 0≤c by omega)
  have R:=hid (round_any s xs k false w hs h0 hd (by omega) (by omega) (by omega))
  by_cases hg:xs.length≤k
  ·obtain ⟨z,hz⟩:∃z:Nat,(k:Int) - (s.size:Int)=(z:Int):=⟨k - s.size,by rw [hs.size];omega⟩
   have RE:=hid (fun wx:World=>frepeat_any z wx (by omega))
   have szb:(s.size:Int)≤3000:=by rw [hs.size];omega
   have kb:(k:Int)≤10000:=hc
   have F:Hid (∀b:ByteArray,Str b (List.replicate z 48)→Str (s++b) (Fx.kp xs k)):=by
    intro b hb
    rw [Fx.kp_full hg,show k - xs.length=z by have:=hs.size;omega]
    exact hs.app hb
   have RT:Hid (∀e,RoundTold s xs k false e→e=.returned (.tuple #[.string s,.bool false,.int .i64 0])):=fun e h=>h.1 (by omega)
   clear hs hd h0 hl hg hn hc
   go_enter Tryz.func239,Tryz.ntmps239
   go_wp2_with fail
   refine R.out.mono ?_
   rintro e w1 ⟨h,B1⟩
   obtain rfl:=RT.out e h
   have HB:=hid B1
   clear h B1 RT R
   go_wp2_with fail
   refine (RE.out _).mono ?_
   rintro e w2 ⟨b,rfl,hb,B2⟩
   have K:=hid (And.intro (F.out b hb) (HB.out.trans (B2.mono HB.out.size)))
   have szc:(b.size:Int)≤10000:=by rw [hb.size,List.length_replicate];omega
   clear hb B2 RE F HB
   go_wp2_with fail
   go_ret
   exact ⟨_,rfl,K.out.1,K.out.2⟩
  ·have hk:k<xs.length:=by omega
   have RE:=hid (fun wx:World=>frepeat_any 0 wx (by omega))
   have kb:(k:Int)≤10000:=hc
   have RT:Hid (∀e,RoundTold s xs k false e→∃s' c,e=.returned (.tuple #[.string s',.bool c,.int .i64 0])∧s'.size=k∧Hid (∀b,Str b []→if c=true then Str (⟨#[49]⟩++(s'++b)) (Fx.kp xs k) else Str (s'++b) (Fx.kp xs k))):=by
    intro e h
    obtain ⟨s',ds,c,rfl,h1,h2⟩:=h.2 (by omega)
    rw [Int.toNat_natCast] at h2
    refine ⟨s',c,rfl,by rw [h1.size,h2.2.1],fun b hb=>?_⟩
    have q:=Fx.rd_round hd (by omega) h2
    rw [Fx.kp_cut hk,←q]
    have a:=h1.app hb
    rw [List.append_nil] at a
    cases c
    ·exact a
    ·exact str_one.app a
   clear hs hd h0 hl hg hn hc hk
   go_enter Tryz.func239,Tryz.ntmps239
   go_wp2_with fail
   refine R.out.mono ?_
   rintro e w1 ⟨h,B1⟩
   obtain ⟨s',c,rfl,hz,F⟩:=RT.out e h
   have HB:=hid B1
   clear h B1 RT R
   go_wp2_with fail
   refine (RE.out _).mono ?_
   rintro e w2 ⟨b,rfl,hb,B2⟩
   have K:=hid (F.out b hb)
   have HB2:=hid (HB.out.trans (B2.mono HB.out.size))
   have szc:b.size=0:=by rw [hb.size];rfl
   clear hb B2 RE F HB
   cases c
   ·go_wp2_with fail
    go_ret
    exact ⟨_,rfl,K.out,HB2.out⟩
   ·go_wp2_with fail
    go_ret
    exact ⟨_,rfl,K.out,HB2.out⟩
end Go.Proofs.YtbdhlfklcdegdaaGreatDoor
