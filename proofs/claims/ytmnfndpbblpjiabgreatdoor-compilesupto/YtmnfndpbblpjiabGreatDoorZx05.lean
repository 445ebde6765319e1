/- Check on both sides. -/
import Derived.Test.YtmnfndpbblpjiabGreatDoorZx04
set_option maxHeartbeats 2000000
set_option maxRecDepth 100000
namespace Go.Proofs.YtmnfndpbblpjiabGreatDoor
open Go.RowKit Pu
theorem Jh (s:ByteArray) (w:World) (hs:300 < s.size) (hm:s.size<=maxLen):Calls Tryz.prog 29 #[.string s] w fun e w'=>e=.returned (.tuple #[.int .i64 1,.int .i64 0])/\w=w':=by
 go_in
 go_wp2_with fail
 refine (xk s w hs hm).mono ?_
 rintro e w2 ⟨rfl,rfl⟩
 go_wp2
 go_ret2
 exact⟨rfl,rfl⟩
theorem Ms (s:ByteArray) (w:World) (hs:s.size<=300):Calls Tryz.prog 29 #[.string s] w fun e w'=>(∃ a b:Nat,EW s a b/\e=.returned (.tuple #[.int .i64 a,.int .i64 b]))/\Mod (fun _=>False) w w':=by
 go_in
 go_wp2_with fail
 refine (xg s w hs).mono ?_
 rintro e w2 ⟨hm,⟨k,hst,rfl⟩ | ⟨hw,p,k,hk,hok,hp,he,rfl⟩ | ⟨hw,v,q,hok,hq,hL,hle,rfl⟩⟩
 ·go_wp2
  go_ret2
  exact⟨⟨2,k,.inl ⟨hst,rfl⟩,rfl⟩,hm⟩
 ·have HA:Hid (EW s (err p (bF s s.size).l[k]) k):=.inr (.inl ⟨hw,p,hk,hok,hp,he,rfl⟩)
  generalize err p (bF s s.size).l[k]=er at *
  clear hp
  go_wp2
  go_ret2
  exact⟨⟨er,k,HA.out,rfl⟩,hm⟩
 ·have HA:Hid (EW s 0 0):=.inr (.inr ⟨hw,rfl,rfl,pq q,hok,by rw[fH];exact hq⟩)
  clear hq
  go_wp2
  go_ret2
  exact⟨⟨0,0,HA.out,rfl⟩,hm⟩
end Go.Proofs.YtmnfndpbblpjiabGreatDoor

/- The scanner's step, state by state. -/
namespace Go.Proofs.YtmnfndpbblpjiabGreatDoor
set_option linter.unusedVariables false
open Go.RowKit Pu
theorem Vd (xb n le ar c:Nat) (w:World) (hX:gI w xb ⟨0,n,le,ar⟩) (hn:n<=300) (hl:le<=300) (ha:ar<=300) (hc:c < 256) (uY:((n:Int) == 16)=true) :
  Calls Tryz.prog 147 #[.pointer (some ⟨xb,0,none⟩),.int .u8 c] w (dw xb ⟨0,n,le,ar⟩ c w):=by
 have c0:=hX.c0
 have c1:=hX.c1
 have c2:=hX.c2
 have c3:=hX.c3
 have f0:=hX.fz 0
 have f1:=hX.fz 1
 have f2:=hX.fz 2
 have f3:=hX.fz 3
 have HX:Hid (gI w xb ⟨0,n,le,ar⟩):=hX
 have HN:Hid (nx ⟨0,n,le,ar⟩ c=none):=show nx ⟨0,n,le,ar⟩ c=none by
  have z8:n=16:=by have:=uY;simp at this;omega
  simp[nx,z8]
 clear hX
 go_in
 go_wp2_with (go_at_call 112;refine (gV _ _).mono ?_;rintro e w' ⟨rfl,rfl⟩)
 go_ret
 exact sH HN.out
theorem Ve (xb n le ar c:Nat) (w:World) (hX:gI w xb ⟨0,n,le,ar⟩) (hn:n<=300) (hl:le<=300) (ha:ar<=300) (hc:c < 256) (uY:((n:Int) == 16)=false) (Qt:((c:Int) == 63)=true) :
  Calls Tryz.prog 147 #[.pointer (some ⟨xb,0,none⟩),.int .u8 c] w (dw xb ⟨0,n,le,ar⟩ c w):=by
 have c0:=hX.c0
 have c1:=hX.c1
 have c2:=hX.c2
 have c3:=hX.c3
 have f0:=hX.fz 0
 have f1:=hX.fz 1
 have f2:=hX.fz 2
 have f3:=hX.fz 3
 have HX:Hid (gI w xb ⟨0,n,le,ar⟩):=hX
 have HN:Hid (nx ⟨0,n,le,ar⟩ c=some ⟨2,n,le,ar⟩):=show nx ⟨0,n,le,ar⟩ c=some ⟨2,n,le,ar⟩ by
  have z8:¬ n=16:=by have:=uY;simp at this;omega
  have FK:c=63:=by have:=Qt;simp at this;omega
  simp[nx,z8,FK]
 clear hX
 go_in
 go_wp2_with (go_at_call 112;refine (gV _ _).mono ?_;rintro e w' ⟨rfl,rfl⟩)
 go_ret
 exact mJ HN.out (HX.out.set0 2) (JW xb 0 _ _)
theorem Vf (xb n le ar c:Nat) (w:World) (hX:gI w xb ⟨0,n,le,ar⟩) (hn:n<=300) (hl:le<=300) (ha:ar<=300) (hc:c < 256) (uY:((n:Int) == 16)=false) (Qt:((c:Int) == 63)=false) (hL:gU c=true) :
  Calls Tryz.prog 147 #[.pointer (some ⟨xb,0,none⟩),.int .u8 c] w (dw xb ⟨0,n,le,ar⟩ c w):=by
 have c0:=hX.c0
 have c1:=hX.c1
 have c2:=hX.c2
 have c3:=hX.c3
 have f0:=hX.fz 0
 have f1:=hX.fz 1
 have f2:=hX.fz 2
 have f3:=hX.fz 3
 have HX:Hid (gI w xb ⟨0,n,le,ar⟩):=hX
 have HN:Hid (nx ⟨0,n,le,ar⟩ c=some ⟨1,n,le,ar⟩):=show nx ⟨0,n,le,ar⟩ c=some ⟨1,n,le,ar⟩ by
  have z8:¬ n=16:=by have:=uY;simp at this;omega
  have FK:¬ c=63:=by have:=Qt;simp at this;omega
  simp[nx,z8,FK,hL]
 clear hX
 go_in
 go_wp2_with (go_at_call 112;refine (gV _ _).mono ?_;rintro e w' ⟨rfl,rfl⟩)
 go_ret
 exact mJ HN.out (HX.out.set0 1) (JW xb 0 _ _)
theorem Vg (xb n le ar c:Nat) (w:World) (hX:gI w xb ⟨0,n,le,ar⟩) (hn:n<=300) (hl:le<=300) (ha:ar<=300) (hc:c < 256) (uY:((n:Int) == 16)=false) (Qt:((c:Int) == 63)=false) (hL:gU c=false) :
  Calls Tryz.prog 147 #[.pointer (some ⟨xb,0,none⟩),.int .u8 c] w (dw xb ⟨0,n,le,ar⟩ c w):=by
 have c0:=hX.c0
 have c1:=hX.c1
 have c2:=hX.c2
 have c3:=hX.c3
 have f0:=hX.fz 0
 have f1:=hX.fz 1
 have f2:=hX.fz 2
 have f3:=hX.fz 3
 have HX:Hid (gI w xb ⟨0,n,le,ar⟩):=hX
 have HN:Hid (nx ⟨0,n,le,ar⟩ c=none):=show nx ⟨0,n,le,ar⟩ c=none by
  have z8:¬ n=16:=by have:=uY;simp at this;omega
  have FK:¬ c=63:=by have:=Qt;simp at this;omega
  simp[nx,z8,FK,hL]
 clear hX
 go_in
 go_wp2_with (go_at_call 112;refine (gV _ _).mono ?_;rintro e w' ⟨rfl,rfl⟩)
 go_ret
 exact sH HN.out
theorem Vh (xb n le ar c:Nat) (w:World) (hX:gI w xb ⟨1,n,le,ar⟩) (hn:n<=300) (hl:le<=300) (ha:ar<=300) (hc:c < 256) (Yy:((c:Int) == 61)=true) :
  Calls Tryz.prog 147 #[.pointer (some ⟨xb,0,none⟩),.int .u8 c] w (dw xb ⟨1,n,le,ar⟩ c w):=by
 have c0:=hX.c0
 have c1:=hX.c1
 have c2:=hX.c2
 have c3:=hX.c3
 have f0:=hX.fz 0
 have f1:=hX.fz 1
 have f2:=hX.fz 2
 have f3:=hX.fz 3
 have HX:Hid (gI w xb ⟨1,n,le,ar⟩):=hX
 have HN:Hid (nx ⟨1,n,le,ar⟩ c=some ⟨2,n,le,ar⟩):=show nx ⟨1,n,le,ar⟩ c=some ⟨2,n,le,ar⟩ by
  have PN:c=61:=by have:=Yy;simp at this;omega
  simp[nx,PN]
 clear hX
 go_in
 go_wp2_with (go_at_call 112;refine (gV _ _).mono ?_;rintro e w' ⟨rfl,rfl⟩)
 go_ret
 exact mJ HN.out (HX.out.set0 2) (JW xb 0 _ _)
theorem Vi (xb n le ar c:Nat) (w:World) (hX:gI w xb ⟨1,n,le,ar⟩) (hn:n<=300) (hl:le<=300) (ha:ar<=300) (hc:c < 256) (Yy:((c:Int) == 61)=false) :
  Calls Tryz.prog 147 #[.pointer (some ⟨xb,0,none⟩),.int .u8 c] w (dw xb ⟨1,n,le,ar⟩ c w):=by
 have c0:=hX.c0
 have c1:=hX.c1
 have c2:=hX.c2
 have c3:=hX.c3
 have f0:=hX.fz 0
 have f1:=hX.fz 1
 have f2:=hX.fz 2
 have f3:=hX.fz 3
 have HX:Hid (gI w xb ⟨1,n,le,ar⟩):=hX
 have HN:Hid (nx ⟨1,n,le,ar⟩ c=none):=show nx ⟨1,n,le,ar⟩ c=none by
  have PN:¬ c=61:=by have:=Yy;simp at this;omega
  simp[nx,PN]
 clear hX
 go_in
 go_wp2_with (go_at_call 112;refine (gV _ _).mono ?_;rintro e w' ⟨rfl,rfl⟩)
 go_ret
 exact sH HN.out
theorem Vj (xb n le ar c:Nat) (w:World) (hX:gI w xb ⟨2,n,le,ar⟩) (hn:n<=300) (hl:le<=300) (ha:ar<=300) (hc:c < 256) (hL:gU c=true) :
  Calls Tryz.prog 147 #[.pointer (some ⟨xb,0,none⟩),.int .u8 c] w (dw xb ⟨2,n,le,ar⟩ c w):=by
 have c0:=hX.c0
 have c1:=hX.c1
 have c2:=hX.c2
 have c3:=hX.c3
 have f0:=hX.fz 0
 have f1:=hX.fz 1
 have f2:=hX.fz 2
 have f3:=hX.fz 3
 have HX:Hid (gI w xb ⟨2,n,le,ar⟩):=hX
 have HN:Hid (nx ⟨2,n,le,ar⟩ c=some ⟨3,n,1,ar⟩):=show nx ⟨2,n,le,ar⟩ c=some ⟨3,n,1,ar⟩ by
  simp[nx,hL]
 clear hX
 go_in
 go_wp2_with (go_at_call 112;refine (gV _ _).mono ?_;rintro e w' ⟨rfl,rfl⟩)
 go_ret
 exact mJ HN.out ((HX.out.set2 1).set0 3) (NJ xb 2 0 _ _ _)
theorem Vk (xb n le ar c:Nat) (w:World) (hX:gI w xb ⟨2,n,le,ar⟩) (hn:n<=300) (hl:le<=300) (ha:ar<=300) (hc:c < 256) (hL:gU c=false) :
  Calls Tryz.prog 147 #[.pointer (some ⟨xb,0,none⟩),.int .u8 c] w (dw xb ⟨2,n,le,ar⟩ c w):=by
 have c0:=hX.c0
 have c1:=hX.c1
 have c2:=hX.c2
 have c3:=hX.c3
 have f0:=hX.fz 0
 have f1:=hX.fz 1
 have f2:=hX.fz 2
 have f3:=hX.fz 3
 have HX:Hid (gI w xb ⟨2,n,le,ar⟩):=hX
 have HN:Hid (nx ⟨2,n,le,ar⟩ c=none):=show nx ⟨2,n,le,ar⟩ c=none by
  simp[nx,hL]
 clear hX
 go_in
 go_wp2_with (go_at_call 112;refine (gV _ _).mono ?_;rintro e w' ⟨rfl,rfl⟩)
 go_ret
 exact sH HN.out
set_option linter.unusedVariables false
open Go.RowKit Pu
theorem Vl (xb n le ar c:Nat) (w:World) (hX:gI w xb ⟨3,n,le,ar⟩) (hn:n<=300) (hl:le<=300) (ha:ar<=300) (hc:c < 256) (hL:gU c=true) (hle:le < 6) :
  Calls Tryz.prog 147 #[.pointer (some ⟨xb,0,none⟩),.int .u8 c] w (dw xb ⟨3,n,le,ar⟩ c w):=by
 have c0:=hX.c0
 have c1:=hX.c1
 have c2:=hX.c2
 have c3:=hX.c3
 have f0:=hX.fz 0
 have f1:=hX.fz 1
 have f2:=hX.fz 2
 have f3:=hX.fz 3
 have HX:Hid (gI w xb ⟨3,n,le,ar⟩):=hX
 have HN:Hid (nx ⟨3,n,le,ar⟩ c=some ⟨3,n,le+1,ar⟩):=show nx ⟨3,n,le,ar⟩ c=some ⟨3,n,le+1,ar⟩ by
  simp[nx,hL,hle]
 clear hX
 go_in
 go_wp2_with (go_at_call 112;refine (gV _ _).mono ?_;rintro e w' ⟨rfl,rfl⟩)
 go_ret
 exact mJ HN.out ((HX.out.set2 (le+1)).set0 3) (NJ xb 2 0 _ _ _)
theorem Vm (xb n le ar c:Nat) (w:World) (hX:gI w xb ⟨3,n,le,ar⟩) (hn:n<=300) (hl:le<=300) (ha:ar<=300) (hc:c < 256) (hL:gU c=true) (hle:6<=le) (Qr:((c:Int) == 40)=false) :
  Calls Tryz.prog 147 #[.pointer (some ⟨xb,0,none⟩),.int .u8 c] w (dw xb ⟨3,n,le,ar⟩ c w):=by
 have c0:=hX.c0
 have c1:=hX.c1
 have c2:=hX.c2
 have c3:=hX.c3
 have f0:=hX.fz 0
 have f1:=hX.fz 1
 have f2:=hX.fz 2
 have f3:=hX.fz 3
 have HX:Hid (gI w xb ⟨3,n,le,ar⟩):=hX
 have HN:Hid (nx ⟨3,n,le,ar⟩ c=none):=show nx ⟨3,n,le,ar⟩ c=none by
  have FI:¬ c=40:=by have:=Qr;simp at this;omega
  simp[nx,hL,show ¬ le < 6 by omega,FI]
 clear hX
 go_in
 go_wp2_with (go_at_call 112;refine (gV _ _).mono ?_;rintro e w' ⟨rfl,rfl⟩)
 go_ret
 exact sH HN.out
theorem Vn (xb n le ar c:Nat) (w:World) (hX:gI w xb ⟨3,n,le,ar⟩) (hn:n<=300) (hl:le<=300) (ha:ar<=300) (hc:c < 256) (hL:gU c=false) (Qr:((c:Int) == 40)=true) :
  Calls Tryz.prog 147 #[.pointer (some ⟨xb,0,none⟩),.int .u8 c] w (dw xb ⟨3,n,le,ar⟩ c w):=by
 have c0:=hX.c0
 have c1:=hX.c1
 have c2:=hX.c2
 have c3:=hX.c3
 have f0:=hX.fz 0
 have f1:=hX.fz 1
 have f2:=hX.fz 2
 have f3:=hX.fz 3
 have HX:Hid (gI w xb ⟨3,n,le,ar⟩):=hX
 have HN:Hid (nx ⟨3,n,le,ar⟩ c=some ⟨4,n,le,0⟩):=show nx ⟨3,n,le,ar⟩ c=some ⟨4,n,le,0⟩ by
  have FI:c=40:=by have:=Qr;simp at this;omega
  simp[nx,FI,gU]
 clear hX
 go_in
 go_wp2_with (go_at_call 112;refine (gV _ _).mono ?_;rintro e w' ⟨rfl,rfl⟩)
 go_ret
 exact mJ HN.out ((HX.out.gL 0).set0 4) (NJ xb 3 0 _ _ _)
theorem Vo (xb n le ar c:Nat) (w:World) (hX:gI w xb ⟨3,n,le,ar⟩) (hn:n<=300) (hl:le<=300) (ha:ar<=300) (hc:c < 256) (hL:gU c=false) (Qr:((c:Int) == 40)=false) :
  Calls Tryz.prog 147 #[.pointer (some ⟨xb,0,none⟩),.int .u8 c] w (dw xb ⟨3,n,le,ar⟩ c w):=by
 have c0:=hX.c0
 have c1:=hX.c1
 have c2:=hX.c2
 have c3:=hX.c3
 have f0:=hX.fz 0
 have f1:=hX.fz 1
 have f2:=hX.fz 2
 have f3:=hX.fz 3
 have HX:Hid (gI w xb ⟨3,n,le,ar⟩):=hX
 have HN:Hid (nx ⟨3,n,le,ar⟩ c=none):=show nx ⟨3,n,le,ar⟩ c=none by
  have FI:¬ c=40:=by have:=Qr;simp at this;omega
  simp[nx,hL,FI]
 clear hX
 go_in
 go_wp2_with (go_at_call 112;refine (gV _ _).mono ?_;rintro e w' ⟨rfl,rfl⟩)
 go_ret
 exact sH HN.out
theorem Vp (xb n le ar c:Nat) (w:World) (hX:gI w xb ⟨4,n,le,ar⟩) (hn:n<=300) (hl:le<=300) (ha:ar<=300) (hc:c < 256) (hL:gU c=true) :
  Calls Tryz.prog 147 #[.pointer (some ⟨xb,0,none⟩),.int .u8 c] w (dw xb ⟨4,n,le,ar⟩ c w):=by
 have c0:=hX.c0
 have c1:=hX.c1
 have c2:=hX.c2
 have c3:=hX.c3
 have f0:=hX.fz 0
 have f1:=hX.fz 1
 have f2:=hX.fz 2
 have f3:=hX.fz 3
 have HX:Hid (gI w xb ⟨4,n,le,ar⟩):=hX
 have HN:Hid (nx ⟨4,n,le,ar⟩ c=some ⟨5,n,le,ar+1⟩):=show nx ⟨4,n,le,ar⟩ c=some ⟨5,n,le,ar+1⟩ by
  simp[nx,hL]
 clear hX
 go_in
 go_wp2_with (go_at_call 112;refine (gV _ _).mono ?_;rintro e w' ⟨rfl,rfl⟩)
 go_ret
 exact mJ HN.out ((HX.out.gL (ar+1)).set0 5) (NJ xb 3 0 _ _ _)
theorem Vq (xb n le ar c:Nat) (w:World) (hX:gI w xb ⟨4,n,le,ar⟩) (hn:n<=300) (hl:le<=300) (ha:ar<=300) (hc:c < 256) (hL:gU c=false) (Ai:((c:Int) == 41)=true) :
  Calls Tryz.prog 147 #[.pointer (some ⟨xb,0,none⟩),.int .u8 c] w (dw xb ⟨4,n,le,ar⟩ c w):=by
 have c0:=hX.c0
 have c1:=hX.c1
 have c2:=hX.c2
 have c3:=hX.c3
 have f0:=hX.fz 0
 have f1:=hX.fz 1
 have f2:=hX.fz 2
 have f3:=hX.fz 3
 have HX:Hid (gI w xb ⟨4,n,le,ar⟩):=hX
 have HN:Hid (nx ⟨4,n,le,ar⟩ c=some ⟨7,n,le,ar⟩):=show nx ⟨4,n,le,ar⟩ c=some ⟨7,n,le,ar⟩ by
  have vY:c=41:=by have:=Ai;simp at this;omega
  simp[nx,vY,gU]
 clear hX
 go_in
 go_wp2_with (go_at_call 112;refine (gV _ _).mono ?_;rintro e w' ⟨rfl,rfl⟩)
 go_ret
 exact mJ HN.out (HX.out.set0 7) (JW xb 0 _ _)
theorem Vr (xb n le ar c:Nat) (w:World) (hX:gI w xb ⟨4,n,le,ar⟩) (hn:n<=300) (hl:le<=300) (ha:ar<=300) (hc:c < 256) (hL:gU c=false) (Ai:((c:Int) == 41)=false) :
  Calls Tryz.prog 147 #[.pointer (some ⟨xb,0,none⟩),.int .u8 c] w (dw xb ⟨4,n,le,ar⟩ c w):=by
 have c0:=hX.c0
 have c1:=hX.c1
 have c2:=hX.c2
 have c3:=hX.c3
 have f0:=hX.fz 0
 have f1:=hX.fz 1
 have f2:=hX.fz 2
 have f3:=hX.fz 3
 have HX:Hid (gI w xb ⟨4,n,le,ar⟩):=hX
 have HN:Hid (nx ⟨4,n,le,ar⟩ c=none):=show nx ⟨4,n,le,ar⟩ c=none by
  have vY:¬ c=41:=by have:=Ai;simp at this;omega
  simp[nx,hL,vY]
 clear hX
 go_in
 go_wp2_with (go_at_call 112;refine (gV _ _).mono ?_;rintro e w' ⟨rfl,rfl⟩)
 go_ret
 exact sH HN.out
set_option linter.unusedVariables false
open Go.RowKit Pu
theorem Vs (xb n le ar c:Nat) (w:World) (hX:gI w xb ⟨5,n,le,ar⟩) (hn:n<=300) (hl:le<=300) (ha:ar<=300) (hc:c < 256) (Ai:((c:Int) == 41)=true) :
  Calls Tryz.prog 147 #[.pointer (some ⟨xb,0,none⟩),.int .u8 c] w (dw xb ⟨5,n,le,ar⟩ c w):=by
 have c0:=hX.c0
 have c1:=hX.c1
 have c2:=hX.c2
 have c3:=hX.c3
 have f0:=hX.fz 0
 have f1:=hX.fz 1
 have f2:=hX.fz 2
 have f3:=hX.fz 3
 have HX:Hid (gI w xb ⟨5,n,le,ar⟩):=hX
 have HN:Hid (nx ⟨5,n,le,ar⟩ c=some ⟨7,n,le,ar⟩):=show nx ⟨5,n,le,ar⟩ c=some ⟨7,n,le,ar⟩ by
  have vY:c=41:=by have:=Ai;simp at this;omega
  simp[nx,vY]
 clear hX
 go_in
 go_wp2_with (go_at_call 112;refine (gV _ _).mono ?_;rintro e w' ⟨rfl,rfl⟩)
 go_ret
 exact mJ HN.out (HX.out.set0 7) (JW xb 0 _ _)
theorem Vt (xb n le ar c:Nat) (w:World) (hX:gI w xb ⟨5,n,le,ar⟩) (hn:n<=300) (hl:le<=300) (ha:ar<=300) (hc:c < 256) (Ai:((c:Int) == 41)=false) (Qs:((c:Int) == 44)=true) (hae:ar < 4) :
  Calls Tryz.prog 147 #[.pointer (some ⟨xb,0,none⟩),.int .u8 c] w (dw xb ⟨5,n,le,ar⟩ c w):=by
 have c0:=hX.c0
 have c1:=hX.c1
 have c2:=hX.c2
 have c3:=hX.c3
 have f0:=hX.fz 0
 have f1:=hX.fz 1
 have f2:=hX.fz 2
 have f3:=hX.fz 3
 have HX:Hid (gI w xb ⟨5,n,le,ar⟩):=hX
 have HN:Hid (nx ⟨5,n,le,ar⟩ c=some ⟨6,n,le,ar⟩):=show nx ⟨5,n,le,ar⟩ c=some ⟨6,n,le,ar⟩ by
  have vY:¬ c=41:=by have:=Ai;simp at this;omega
  have FJ:c=44:=by have:=Qs;simp at this;omega
  simp[nx,FJ,hae]
 clear hX
 go_in
 go_wp2_with (go_at_call 112;refine (gV _ _).mono ?_;rintro e w' ⟨rfl,rfl⟩)
 go_ret
 exact mJ HN.out (HX.out.set0 6) (JW xb 0 _ _)
theorem Vu (xb n le ar c:Nat) (w:World) (hX:gI w xb ⟨5,n,le,ar⟩) (hn:n<=300) (hl:le<=300) (ha:ar<=300) (hc:c < 256) (Ai:((c:Int) == 41)=false) (Qs:((c:Int) == 44)=true) (hae:4<=ar) :
  Calls Tryz.prog 147 #[.pointer (some ⟨xb,0,none⟩),.int .u8 c] w (dw xb ⟨5,n,le,ar⟩ c w):=by
 have c0:=hX.c0
 have c1:=hX.c1
 have c2:=hX.c2
 have c3:=hX.c3
 have f0:=hX.fz 0
 have f1:=hX.fz 1
 have f2:=hX.fz 2
 have f3:=hX.fz 3
 have HX:Hid (gI w xb ⟨5,n,le,ar⟩):=hX
 have HN:Hid (nx ⟨5,n,le,ar⟩ c=none):=show nx ⟨5,n,le,ar⟩ c=none by
  have vY:¬ c=41:=by have:=Ai;simp at this;omega
  have FJ:c=44:=by have:=Qs;simp at this;omega
  simp[nx,FJ,show ¬ ar < 4 by omega]
 clear hX
 go_in
 go_wp2_with (go_at_call 112;refine (gV _ _).mono ?_;rintro e w' ⟨rfl,rfl⟩)
 go_ret
 exact sH HN.out
theorem Vv (xb n le ar c:Nat) (w:World) (hX:gI w xb ⟨5,n,le,ar⟩) (hn:n<=300) (hl:le<=300) (ha:ar<=300) (hc:c < 256) (Ai:((c:Int) == 41)=false) (Qs:((c:Int) == 44)=false) :
  Calls Tryz.prog 147 #[.pointer (some ⟨xb,0,none⟩),.int .u8 c] w (dw xb ⟨5,n,le,ar⟩ c w):=by
 have c0:=hX.c0
 have c1:=hX.c1
 have c2:=hX.c2
 have c3:=hX.c3
 have f0:=hX.fz 0
 have f1:=hX.fz 1
 have f2:=hX.fz 2
 have f3:=hX.fz 3
 have HX:Hid (gI w xb ⟨5,n,le,ar⟩):=hX
 have HN:Hid (nx ⟨5,n,le,ar⟩ c=none):=show nx ⟨5,n,le,ar⟩ c=none by
  have vY:¬ c=41:=by have:=Ai;simp at this;omega
  have FJ:¬ c=44:=by have:=Qs;simp at this;omega
  simp[nx,vY,FJ]
 clear hX
 go_in
 go_wp2_with (go_at_call 112;refine (gV _ _).mono ?_;rintro e w' ⟨rfl,rfl⟩)
 go_ret
 exact sH HN.out
theorem Vw (xb n le ar c:Nat) (w:World) (hX:gI w xb ⟨6,n,le,ar⟩) (hn:n<=300) (hl:le<=300) (ha:ar<=300) (hc:c < 256) (hL:gU c=true) :
  Calls Tryz.prog 147 #[.pointer (some ⟨xb,0,none⟩),.int .u8 c] w (dw xb ⟨6,n,le,ar⟩ c w):=by
 have c0:=hX.c0
 have c1:=hX.c1
 have c2:=hX.c2
 have c3:=hX.c3
 have f0:=hX.fz 0
 have f1:=hX.fz 1
 have f2:=hX.fz 2
 have f3:=hX.fz 3
 have HX:Hid (gI w xb ⟨6,n,le,ar⟩):=hX
 have HN:Hid (nx ⟨6,n,le,ar⟩ c=some ⟨5,n,le,ar+1⟩):=show nx ⟨6,n,le,ar⟩ c=some ⟨5,n,le,ar+1⟩ by
  simp[nx,hL]
 clear hX
 go_in
 go_wp2_with (go_at_call 112;refine (gV _ _).mono ?_;rintro e w' ⟨rfl,rfl⟩)
 go_ret
 exact mJ HN.out ((HX.out.gL (ar+1)).set0 5) (NJ xb 3 0 _ _ _)
theorem Vx (xb n le ar c:Nat) (w:World) (hX:gI w xb ⟨6,n,le,ar⟩) (hn:n<=300) (hl:le<=300) (ha:ar<=300) (hc:c < 256) (hL:gU c=false) :
  Calls Tryz.prog 147 #[.pointer (some ⟨xb,0,none⟩),.int .u8 c] w (dw xb ⟨6,n,le,ar⟩ c w):=by
 have c0:=hX.c0
 have c1:=hX.c1
 have c2:=hX.c2
 have c3:=hX.c3
 have f0:=hX.fz 0
 have f1:=hX.fz 1
 have f2:=hX.fz 2
 have f3:=hX.fz 3
 have HX:Hid (gI w xb ⟨6,n,le,ar⟩):=hX
 have HN:Hid (nx ⟨6,n,le,ar⟩ c=none):=show nx ⟨6,n,le,ar⟩ c=none by
  simp[nx,hL]
 clear hX
 go_in
 go_wp2_with (go_at_call 112;refine (gV _ _).mono ?_;rintro e w' ⟨rfl,rfl⟩)
 go_ret
 exact sH HN.out
theorem Vy (xb n le ar c:Nat) (w:World) (hX:gI w xb ⟨7,n,le,ar⟩) (hn:n<=300) (hl:le<=300) (ha:ar<=300) (hc:c < 256) (Yx:((c:Int) == 59)=true) :
  Calls Tryz.prog 147 #[.pointer (some ⟨xb,0,none⟩),.int .u8 c] w (dw xb ⟨7,n,le,ar⟩ c w):=by
 have c0:=hX.c0
 have c1:=hX.c1
 have c2:=hX.c2
 have c3:=hX.c3
 have f0:=hX.fz 0
 have f1:=hX.fz 1
 have f2:=hX.fz 2
 have f3:=hX.fz 3
 have HX:Hid (gI w xb ⟨7,n,le,ar⟩):=hX
 have HN:Hid (nx ⟨7,n,le,ar⟩ c=some ⟨0,n+1,le,ar⟩):=show nx ⟨7,n,le,ar⟩ c=some ⟨0,n+1,le,ar⟩ by
  have PL:c=59:=by have:=Yx;simp at this;omega
  simp[nx,PL]
 clear hX
 go_in
 go_wp2_with (go_at_call 112;refine (gV _ _).mono ?_;rintro e w' ⟨rfl,rfl⟩)
 go_ret
 exact mJ HN.out ((HX.out.set1 (n+1)).set0 0) (NJ xb 1 0 _ _ _)
theorem Vz (xb n le ar c:Nat) (w:World) (hX:gI w xb ⟨7,n,le,ar⟩) (hn:n<=300) (hl:le<=300) (ha:ar<=300) (hc:c < 256) (Yx:((c:Int) == 59)=false) :
  Calls Tryz.prog 147 #[.pointer (some ⟨xb,0,none⟩),.int .u8 c] w (dw xb ⟨7,n,le,ar⟩ c w):=by
 have c0:=hX.c0
 have c1:=hX.c1
 have c2:=hX.c2
 have c3:=hX.c3
 have f0:=hX.fz 0
 have f1:=hX.fz 1
 have f2:=hX.fz 2
 have f3:=hX.fz 3
 have HX:Hid (gI w xb ⟨7,n,le,ar⟩):=hX
 have HN:Hid (nx ⟨7,n,le,ar⟩ c=none):=show nx ⟨7,n,le,ar⟩ c=none by
  have PL:¬ c=59:=by have:=Yx;simp at this;omega
  simp[nx,PL]
 clear hX
 go_in
 go_wp2_with (go_at_call 112;refine (gV _ _).mono ?_;rintro e w' ⟨rfl,rfl⟩)
 go_ret
 exact sH HN.out
end Go.Proofs.YtmnfndpbblpjiabGreatDoor

/- The scanner's step at every state, and place. -/
namespace Go.Proofs.YtmnfndpbblpjiabGreatDoor
open Go.RowKit Pu
theorem Pu.RB {x y:Sc} {c:Nat} (h:nx x c=some y):y.st<=7/\y.n<=x.n+1/\y.le<=x.le+1/\y.ar<=x.ar+1:=by
 unfold nx at h
 repeat' (split at h)
 all_goals first | (simp at h;done) | (injection h with h;subst h;simp)
theorem Pu.Oo {s:ByteArray}:∀ {k:Nat} {x:Sc},stA s k=some x->x.st<=7/\x.n<=k/\x.le<=k/\x.ar<=k:=by
 intro k
 induction k with
 | zero=>intro x h;simp[stA]at h;subst h;simp
 | succ k ih =>
  intro y h
  obtain⟨x,hx,hn⟩:=BO h
  have:=ih hx
  have:=RB hn
  omega
theorem Ry (xb:Nat) (x:Sc) (c:Nat) (w:World) (hX:gI w xb x) (hst:x.st<=7) (hn:x.n<=300) (hl:x.le<=300) (ha:x.ar<=300) (hc:c < 256) :
  Calls Tryz.prog 147 #[.pointer (some ⟨xb,0,none⟩),.int .u8 c] w (dw xb x c w):=by
 obtain⟨st,n,le,ar⟩:=x
 have hLf:∀ {b:Prop},(gU c=true->b)->(gU c=false->b)->b:=fun p q=>by
  cases h:gU c
  ·exact q h
  ·exact p h
 simp only at hst hn hl ha
 match st,hst with
 | 0,_ =>
  by_cases h16:n=16
  ·exact Vd xb n le ar c w hX hn hl ha hc (bN (m:=16) h16)
  ·by_cases h63:c=63
   ·exact Ve xb n le ar c w hX hn hl ha hc (aF (m:=16) h16) (bN (m:=63) h63)
   ·exact hLf (fun h=>Vf xb n le ar c w hX hn hl ha hc (aF (m:=16) h16) (aF (m:=63) h63) h) (fun h=>Vg xb n le ar c w hX hn hl ha hc (aF (m:=16) h16) (aF (m:=63) h63) h)
 | 1,_ =>
  by_cases Yg:c=61
  ·exact Vh xb n le ar c w hX hn hl ha hc (bN (m:=61) Yg)
  ·exact Vi xb n le ar c w hX hn hl ha hc (aF (m:=61) Yg)
 | 2,_=>exact hLf (fun h=>Vj xb n le ar c w hX hn hl ha hc h) (fun h=>Vk xb n le ar c w hX hn hl ha hc h)
 | 3,_ =>
  refine hLf (fun h=>?_) (fun h=>?_)
  ·by_cases hle:le < 6
   ·exact Vl xb n le ar c w hX hn hl ha hc h hle
   ·exact Vm xb n le ar c w hX hn hl ha hc h (by omega) (aF (m:=40) (by have:=(jM c).1 h;omega))
  ·by_cases WO:c=40
   ·exact Vn xb n le ar c w hX hn hl ha hc h (bN (m:=40) WO)
   ·exact Vo xb n le ar c w hX hn hl ha hc h (aF (m:=40) WO)
 | 4,_ =>
  refine hLf (fun h=>Vp xb n le ar c w hX hn hl ha hc h) (fun h=>?_)
  by_cases zn:c=41
  ·exact Vq xb n le ar c w hX hn hl ha hc h (bN (m:=41) zn)
  ·exact Vr xb n le ar c w hX hn hl ha hc h (aF (m:=41) zn)
 | 5,_ =>
  by_cases zn:c=41
  ·exact Vs xb n le ar c w hX hn hl ha hc (bN (m:=41) zn)
  ·by_cases h44:c=44
   ·by_cases hae:ar < 4
    ·exact Vt xb n le ar c w hX hn hl ha hc (aF (m:=41) zn) (bN (m:=44) h44) hae
    ·exact Vu xb n le ar c w hX hn hl ha hc (aF (m:=41) zn) (bN (m:=44) h44) (by omega)
   ·exact Vv xb n le ar c w hX hn hl ha hc (aF (m:=41) zn) (aF (m:=44) h44)
 | 6,_=>exact hLf (fun h=>Vw xb n le ar c w hX hn hl ha hc h) (fun h=>Vx xb n le ar c w hX hn hl ha hc h)
 | 7,_ =>
  by_cases Yf:c=59
  ·exact Vy xb n le ar c w hX hn hl ha hc (bN (m:=59) Yf)
  ·exact Vz xb n le ar c w hX hn hl ha hc (aF (m:=59) Yf)
theorem NZ (s:ByteArray) (w:World) (hs:s.size<=300) :
  Calls Tryz.prog 99 #[.string s] w fun e w'=>Mod (fun _=>False) w w'/\((e=.returned (.int .i64 (-1))/\Whole s)\/∃ k:Nat,e=.returned (.int .i64 k)/\Stuck s k):=by
 go_in
 go_wp2
 have hX0:gI (w.alloc (.cells #[.int .i64 0,.int .i64 0,.int .i64 0,.int .i64 0] 195)) w.heap.size ⟨0,0,0,0⟩:=by unfold gI;show (w.heap.push _)[w.heap.size]?=_;simp
 go_loopw [4] (fun i wr=>∃ (k:Nat) (x:Sc),k<=s.size/\i=.int .i64 k/\gI wr w.heap.size x/\stA s k=some x/\Mod (fun _=>False) w wr) (fun i _=>s.size - (intOf i).toNat)
 case atStart=>exact⟨0,_,by omega,rfl,hX0,rfl,(Mod.refl _ w).alloc _⟩
 case round =>
  clear hX0
  obtain⟨k,x,hk,rfl,hX,hst,hm⟩:=hrel
  have hsz:=hm.size
  have hbd:=Oo hst
  have HST:Hid (stA s k=some x):=hst
  clear hst
  by_cases hlt:k < s.size
  ·have hg:=dB hlt
   have HG:Hid (g s k=s[k].toNat):=hg
   have hgl:=rW s k
   clear hg
   go_wp2_with fail
   have hN:=Ry w.heap.size x (g s k) wr hX hbd.1 (by omega) (by omega) (by omega) hgl
   rw[HG.out]at hN
   refine hN.mono ?_
   rintro e w2 (⟨hn,rfl,rfl⟩ | ⟨y,hn,rfl,hY,hm2⟩)
   ·rw[<- HG.out]at hn
    have HN:Hid (nx x (g s k)=none):=hn
    clear hn hN
    go_wp2
    go_ret
    exact⟨hm,.inr ⟨k,rfl,x,HST.out,.inl ⟨hlt,HN.out⟩⟩⟩
   ·rw[<- HG.out]at hn
    have HN:Hid (nx x (g s k)=some y):=hn
    have aC:Mod (fun _=>False) w w2:=⟨hm2.os.trans hm.os,hm2.tape.trans hm.tape,hm2.output.trans hm.output,Nat.le_trans hm.size hm2.size,fun i hi _=>(hm2.block i (by omega) (by omega)).trans (hm.block i hi (fun f=>f))⟩
    clear hn hN hm hm2 hX
    go_wp2
    go_roundw
    case rel=>exact⟨k+1,y,by omega,by go_num,hY,iJ HST.out HN.out,aC⟩
    case measure=>simp[intOf];omega
  ·have hks:k=s.size:=by omega
   subst hks
   obtain⟨st,n,le,ar⟩:=x
   have c0:=hX.c0
   by_cases h0:st=0
   ·subst h0
    go_wp2
    go_ret
    exact⟨hm,.inl ⟨rfl,_,HST.out,rfl⟩⟩
   ·have hq:((st:Int) != 0)=true:=by rw[bne_iff_ne];omega
    go_wp2
    go_ret
    exact⟨hm,.inr ⟨s.size,rfl,_,HST.out,.inr ⟨rfl,h0⟩⟩⟩
theorem zL {p:List (St × Nat)} {i:Nat} {l:List St} (h:aL p=l.take p.length) (hi:i<=p.length):aL (p.take i)=l.take i:=by
 have:aL (p.take i)=(aL p).take i:=by simp[aL]
 rw[this,h,List.take_take];congr 1;omega
theorem zi (v:Value) (l:List St) (base i:Nat) (w:World) (p:List (St × Nat)) (hl:l.length<=1000) (hi:i < l.length) (hL:mE w base v l) (hok:Ok p) (hp:aL p=l.take p.length) (hip:i<=p.length)
  (hg:∀ a∈l[i].args,gN (l.take i) a.toNat≠-1) (h4:l[i].args.length<=4)
  (ih:∀ j (hj:j < p.length),j < i->Calls Tryz.prog 103 #[v,.int .i64 j] w fun e w'=>e=.returned (.int .i64 p[j].2)/\w=w') :
  Calls Tryz.prog 103 #[v,.int .i64 i] w fun e w'=>e=.returned (.int .i64 (xD (p.take i) l[i]))/\w=w':=by
 obtain⟨ao,cap,rfl,-⟩:=aj hL
 obtain⟨gb,rfl,c0,c1,c2⟩:=hL.cell hi
 have IH:Hid (∀ j (hj:j < p.length),j < i->Calls Tryz.prog 103 #[.slice (some ⟨gb,0,none⟩) l.length cap,.int .i64 j] w fun e w'=>e=.returned (.int .i64 p[j].2)/\w=w'):=ih
 clear ih
 have hst:=zL hp hip
 have aaM:Ok (p.take i):=fun j hj=>by
  have hj':j < p.length:=by simp at hj;omega
  have hji:j < i:=by simp at hj;omega
  have:=hok j hj'
  rw[List.take_take,show min j i=j by omega,List.getElem_take];exact this
 have HO:Hid (Ok (p.take i)):=aaM
 have HG:Hid (∀ a∈l[i].args,gN (l.take i) a.toNat≠-1):=hg
 have HST:Hid (aL (p.take i)=l.take i):=hst
 have HWG:Hid (∀ nm wd ag,l[i]=⟨nm,wd,ag⟩->xD (p.take i) l[i]=if nm=0 then 0 else wG wd (jA (p.take i) ag) (kC (p.take i) ag)):=fun nm wd ag h=>by rw[h];rfl
 clear hst aaM hg hp hok
 generalize hx:l[i]=x at *
 obtain⟨nm,wd,ag⟩:=x
 simp only at c0 c1 c2 h4 HG
 have Xt:Hid (xD (p.take i) ⟨nm,wd,ag⟩=if nm=0 then 0 else wG wd (jA (p.take i) ag) (kC (p.take i) ag)):=rfl
 clear HWG hx
 generalize xD (p.take i) ⟨nm,wd,ag⟩=res at *
 by_cases h0:nm=0
 ·have hb:((nm:Int) == 0)=true:=bN (m:=0) h0
  have HR:Hid (res=0):=show res=0 by rw[Xt.out,if_pos h0]
  clear h0
  go_in
  go_wp2
  go_ret
  exact⟨by rw[HR.out];rfl,rfl⟩
 ·have hb:((nm:Int) == 0)=false:=aF (m:=0) h0
  have HR:Hid (res=wG wd (jA (p.take i) ag) (kC (p.take i) ag)):=show res=wG wd (jA (p.take i) ag) (kC (p.take i) ag) by rw[Xt.out,if_neg h0]
  clear h0 Xt
  cases hpt:(wd == [112,116]) with
  | true =>
   have HR2:Hid (res=1):=show res=1 by rw[HR.out];simp[wG,hpt]
   go_in
   go_wp2
   go_ret
   exact⟨by rw[HR2.out];rfl,rfl⟩
  | false =>
   go_in
   go_wp2_with fail
   go_loop [5,6,7] (fun a b i'=>∃ k:Nat,k<=ag.length/\i'=.int .i64 k/\a=.int .i64 (jA (p.take i) (ag.take k))/\b=.int .i64 (kC (p.take i) (ag.take k))) (fun _ _ i'=>ag.length - (intOf i').toNat)
   case atStart=>exact⟨0,by omega,rfl,rfl,rfl⟩
   case round =>
    obtain⟨k,hk,rfl,rfl,rfl⟩:=hrel
    have b1:=HO.out.jA (ag.take k)
    have b2:=HO.out.kC (ag.take k)
    have b3:(ag.take k).length<=k:=List.length_take_le _ _
    by_cases hlt:k < ag.length
    ·have HT:Hid (ag.take (k+1)=ag.take k++[ag[k]]):=take_snoc' _ _ hlt
     obtain⟨j,hj,hgj,-⟩:=p8 (p:=p.take i) (nm:=ag[k].toNat) (by rw[HST.out];exact HG.out _ (List.getElem_mem hlt))
     have hji:j < i:=by simp at hj;omega
     have hjp:j < p.length:=by simp at hj;omega
     have HW:Hid (pX (p.take i) ag[k].toNat=p[j].2):=show pX (p.take i) ag[k].toNat=p[j].2 by simp[pX,yM hj hgj]
     have hwb:p[j].2<=64:=by have:=HO.out.pX ag[k].toNat;rw[HW.out]at this;exact this
     have HJ:Hid (gN (l.take i) ag[k].toNat=(j:Int)):=show gN (l.take i) ag[k].toNat=(j:Int) by rw[<- HST.out];exact hgj
     clear hgj hj
     have hso:∀ h,(⟨ag.toArray⟩:ByteArray)[k]'h=ag[k]:=fun _=>rfl
     go_wp2_with fail
     have hgv:=iL (.slice (some ⟨gb,0,none⟩) l.length cap) l i ag[k].toNat base w hl (by omega) hL
     rw[HJ.out]at hgv
     refine hgv.mono ?_
     rintro e w2 ⟨rfl,rfl⟩
     clear hgv
     go_wp2_with fail
     refine (IH.out j hjp hji).mono ?_
     rintro e w2 ⟨rfl,rfl⟩
     go_wp2
     go_round
     case rel=>exact⟨k+1,by omega,by go_num,by rw[HT.out,Dn,HW.out];go_num,by rw[HT.out,Ao,HW.out]⟩
     case measure=>simp[intOf];omega
    ·have hkl:k=ag.length:=by omega
     subst hkl
     rw[List.take_length]at b1 b2 ⊢
     clear b3
     cases hf:(wd == [102,111,111,116]) with
     | true =>
      have HR2:Hid (res=jA (p.take i) ag+kC (p.take i) ag):=show res=jA (p.take i) ag+kC (p.take i) ag by rw[HR.out];simp[wG,hpt,hf]
      go_wp2
      go_ret
      exact⟨by rw[HR2.out];rfl,rfl⟩
     | false =>
      cases hm:(wd == [109,105,114,114,111,114]) with
      | true =>
       have HR2:Hid (res=2*jA (p.take i) ag):=show res=2*jA (p.take i) ag by rw[HR.out];simp[wG,hpt,hf,hm]
       go_wp2
       go_ret
       exact⟨by rw[HR2.out];rfl,rfl⟩
      | false =>
       cases hc:(wd == [99,101,110,116,114,101]) with
       | true =>
        have HR2:Hid (res=4*jA (p.take i) ag):=show res=4*jA (p.take i) ag by rw[HR.out];simp[wG,hpt,hf,hm,hc]
        go_wp2
        go_ret
        exact⟨by rw[HR2.out];rfl,rfl⟩
       | false =>
        have HR2:Hid (res=jA (p.take i) ag):=show res=jA (p.take i) ag by rw[HR.out];simp[wG,hpt,hf,hm,hc]
        go_wp2
        go_ret
        exact⟨by rw[HR2.out];rfl,rfl⟩
theorem Dw (v:Value) (l:List St) (base:Nat) (w:World) (p:List (St × Nat)) (hl:l.length<=1000) (hL:mE w base v l) (hok:Ok p) (hp:aL p=l.take p.length) (hpl:p.length<=l.length) :
  ∀ n j (hj:j < p.length),j < n->Calls Tryz.prog 103 #[v,.int .i64 j] w fun e w'=>e=.returned (.int .i64 p[j].2)/\w=w':=by
 intro n
 induction n with
 | zero=>intro j hj h;omega
 | succ n ih =>
  intro j hj hjn
  have hjl:j < l.length:=by omega
  have hx:p[j].1=l[j]:=by
   have h1:(aL p)[j]?=(l.take p.length)[j]?:=by rw[hp]
   simp[aL,hj,hjl]at h1
   exact h1
  obtain⟨he,hw⟩:=hok j hj
  have hz:=fQ he
  rw[hx]at hz hw
  have hn:=hz.2.2.1
  rw[zL hp (by omega)]at hn
  have:=zi v l base j w p hl hjl hL hok hp (by omega) (qN hn) (by have:=uV l[j].word;rw[hz.2.1];omega) (fun i hi hij=>ih i hi (by omega))
  rw[<- hw]at this
  exact this
theorem Im (v:Value) (l:List St) (base:Nat) (w:World) (p:List (St × Nat)) (hl:l.length<=1000) (hL:mE w base v l) (hok:Ok p) (hp:aL p=l.take p.length) (hi:p.length < l.length)
  (hg:∀ a∈l[p.length].args,gN (aL p) a.toNat≠-1) (h4:l[p.length].args.length<=4) :
  Calls Tryz.prog 103 #[v,.int .i64 p.length] w fun e w'=>e=.returned (.int .i64 (xD p l[p.length]))/\w=w':=by
 have:=zi v l base p.length w p hl hi hL hok hp (Nat.le_refl _) (by rw[<- hp];exact hg) h4 (fun j hj _=>Dw v l base w p hl hL hok hp (by omega) (j+1) j hj (by omega))
 rw[List.take_length]at this
 exact this
theorem mE.mod {w w':World} {base:Nat} {v:Value} {l:List St} (h:mE w base v l) (hm:Mod (fun _=>False) w w'):mE w' base v l:=au h hm (fun _ _ f=>f)
theorem Zg (w:World) (nm:Nat) (wd ag:List UInt8):Sx (w.alloc (.cells #[.int .u8 nm,S wd,S ag] 162)) w.heap.size ⟨nm,wd,ag⟩:=by
 unfold Sx;show (w.heap.push _)[w.heap.size]?=_;simp
theorem Qc (l:List St) (nm:Nat):gN l nm=-1\/0<=gN l nm:=by
 rcases p9 l nm with ⟨h,_⟩ | ⟨k,_,h,_⟩
 ·exact .inl h
 ·exact .inr (by omega)
theorem Dk {p:List (St × Nat)} {ag so:List UInt8} {k:Nat} (hk:k < ag.length) (hs:k < so.length) (h:¬ (fm (argWord p ag[k].toNat)).2=so[k].toNat):eU p ag so=false:=by
 unfold eU
 rw[Bool.eq_false_iff,ne_eq,List.all_eq_true]
 intro H
 have:=H (ag[k],so[k]) (by rw[<- List.getElem_zip (h:=by simp;omega)];exact List.getElem_mem _)
 exact h (by simpa using this)
theorem BM {p:List (St × Nat)} {ag so:List UInt8} (h:∀ j (hj:j < ag.length) (hs:j < so.length),(fm (argWord p ag[j].toNat)).2=so[j].toNat):eU p ag so=true:=by
 unfold eU
 rw[List.all_eq_true]
 intro y hy
 obtain⟨j,hj,rfl⟩:=List.getElem_of_mem hy
 have hj':j < min ag.length so.length:=by simpa using hj
 simpa using h j (by omega) (by omega)
theorem M8 (nm:Nat) (wd ag:List UInt8) (gv:Nat) (h:(fm wd).2=gv):known ⟨nm,wd,ag⟩=!((gv == 0) || ((decide (gv=63)) != (decide (nm=0)))):=by
 unfold known;simp only[h]
 by_cases h0:gv=0
 ·simp[h0]
 ·by_cases h1:gv=63<;>by_cases h2:nm=0<;>simp[h1,h2,bne]
theorem CU (v:Value) (l:List St) (base:Nat) (w:World) (p:List (St × Nat)) (hl:l.length<=1000) (hL:mE w base v l) (hok:Ok p) (hp:aL p=l.take p.length) (hi:p.length < l.length) :
  Calls Tryz.prog 100 #[v,.int .i64 p.length] w fun e w'=>e=.returned (.int .i64 (err p l[p.length]))/\Mod (fun _=>False) w w':=by
 obtain⟨ao,cap,rfl,-⟩:=aj hL
 obtain⟨gb,rfl,c0,c1,c2⟩:=hL.cell hi
 have HO:Hid (Ok p):=hok
 have HP:Hid (aL p=l.take p.length):=hp
 have Xu:Hid (∀ W,mE W base (.slice (some ⟨gb,0,none⟩) l.length cap) l->(∀ a∈l[p.length].args,gN (aL p) a.toNat≠-1)->l[p.length].args.length<=4->Calls Tryz.prog 103 #[.slice (some ⟨gb,0,none⟩) l.length cap,.int .i64 p.length] W fun e w'=>e=.returned (.int .i64 (xD p l[p.length]))/\W=w') :=
  fun W hLW h1 h2=>Im _ l base W p hl hLW hok hp hi h1 h2
 clear hok hp
 generalize hx:l[p.length]=x at *
 obtain⟨nm,wd,ag⟩:=x
 have hX:=Zg w nm wd ag
 have hm0:Mod (fun _=>False) w (w.alloc (.cells #[.int .u8 nm,S wd,S ag] 162)):=(Mod.refl _ w).alloc _
 have hL1:=hL.mod hm0
 simp only at c0 c1 c2 Xu
 clear hx hL
 have hfl:=uV wd
 have hFM:=Ac ⟨wd.toArray⟩ (w.alloc (.cells #[.int .u8 nm,S wd,S ag] 162))
 rw[ByteArray.toList_mk]at hFM
 have HFM:Hid (Calls Tryz.prog 148 #[S wd] (w.alloc (.cells #[.int .u8 nm,S wd,S ag] 162)) fun e w'=>e=.returned (.tuple #[S (fm wd).1,.int .u8 (fm wd).2])/\w.alloc (.cells #[.int .u8 nm,S wd,S ag] 162)=w'):=hFM
 clear hFM
 have HE:Hid (err p ⟨nm,wd,ag⟩=if known ⟨nm,wd,ag⟩=false then 3 else if ag.length≠(fm wd).1.length then 4 else if bX (aL p) ⟨nm,wd,ag⟩=false then 5 else if eU p ag (fm wd).1=false then 6 else if 64 < xD p ⟨nm,wd,ag⟩ then 7 else 0):=rfl
 generalize err p ⟨nm,wd,ag⟩=er at *
 generalize hgv:(fm wd).2=gv at *
 generalize hso:(fm wd).1=so at *
 have hkn:=M8 nm wd ag gv hgv
 clear hgv hso
 by_cases hz:gv=0
 ·have HR:Hid (er=3):=show er=3 by rw[HE.out,hkn];simp[hz]
  clear HE hkn Xu
  have hb:((gv:Int) == 0)=true:=bN (m:=0) hz
  clear hz
  go_in
  go_wp2_with fail
  refine HFM.out.mono ?_
  rintro e w2 ⟨rfl,rfl⟩
  go_wp2
  go_ret
  exact⟨by rw[HR.out];rfl,hm0⟩
 ·have hb:((gv:Int) == 0)=false:=aF (m:=0) hz
  have e1:((gv:Int) == 63)=decide (gv=63):=by rw[Bool.eq_iff_iff];simp;omega
  have e2:((nm:Int) == 0)=decide (nm=0):=by rw[Bool.eq_iff_iff];simp
  have e3:((nm:Int) != 0)=!decide (nm=0):=by rw[bne,e2]
  have hkn':known ⟨nm,wd,ag⟩=!((decide (gv=63)) != (decide (nm=0))):=by rw[hkn];simp[hz]
  clear hkn hz
  have Zq:Hid (∀ b,decide (nm=0)=b->(nm == 0)=b):=fun b h=>by rw[<- h];rfl
  generalize decide (gv=63)=b1 at *
  generalize hd:decide (nm=0)=b2 at *
  have ZK:Hid ((nm == 0)=b2):=Zq.out b2 rfl
  clear hd Zq
  have x0:=hX.c0
  have x2:=hX.c2
  by_cases hbb:b1=b2
  ·subst hbb
   have Fb:Hid (known ⟨nm,wd,ag⟩=true):=show known ⟨nm,wd,ag⟩=true by rw[hkn'];simp
   clear hkn'
   by_cases hc:ag.length=so.length
   ·have HC:Hid (ag.length=so.length):=hc
    have hcb:((ag.length:Int) != (so.length:Int))=false:=by rw[hc];simp
    have UN:ag.length<=4:=by omega
    clear hc
    go_in
    go_wp2_with fail
    refine HFM.out.mono ?_
    rintro e w2 ⟨rfl,rfl⟩
    go_wp2_with fail
    generalize w.alloc (.cells #[.int .u8 nm,S wd,S ag] 162)=W at *
    go_loop [8] (fun i=>∃ k:Nat,k<=ag.length/\i=.int .i64 k/\∀ j (hj:j < ag.length),j < k->gN (l.take p.length) ag[j].toNat≠-1) (fun i=>ag.length - (intOf i).toNat)
    case atStart=>exact⟨0,by omega,rfl,fun j hj h=>by omega⟩
    case round =>
     obtain⟨k,hk,rfl,hN⟩:=hrel
     have HN:Hid (∀ j (hj:j < ag.length),j < k->gN (l.take p.length) ag[j].toNat≠-1):=hN
     clear hN
     by_cases hlt:k < ag.length
     ·have hks:k < so.length:=by have:=HC.out;omega
      have hso:∀ h,(⟨ag.toArray⟩:ByteArray)[k]'h=ag[k]:=fun _=>rfl
      rcases Qc (l.take p.length) ag[k].toNat with hg | hg
      ·have HG:Hid (gN (l.take p.length) ag[k].toNat=-1):=hg
       clear hg
       go_wp2_with fail
       have hgv:=iL (.slice (some ⟨gb,0,none⟩) l.length cap) l p.length ag[k].toNat base W hl (by omega) hL1
       rw[HG.out]at hgv
       refine hgv.mono ?_
       rintro e w2 ⟨rfl,rfl⟩
       clear hgv
       go_wp2
       go_ret
       have HR:er=5:=by
        have h5:bX (aL p) ⟨nm,wd,ag⟩=false:=by rw[HP.out];exact GN (x:=⟨nm,wd,ag⟩) hlt HG.out
        rw[HE.out,Fb.out,h5];simp[HC.out]
       exact⟨by rw[HR];rfl,hm0⟩
      ·have HG:Hid (gN (l.take p.length) ag[k].toNat≠-1):=show gN (l.take p.length) ag[k].toNat≠-1 by omega
       have hgb:decide (gN (l.take p.length) ag[k].toNat < 0)=false:=by simp;exact hg
       go_wp2_with fail
       refine (iL (.slice (some ⟨gb,0,none⟩) l.length cap) l p.length ag[k].toNat base W hl (by omega) hL1).mono ?_
       rintro e w2 ⟨rfl,rfl⟩
       go_wp2
       go_round
       case rel=>exact⟨k+1,by omega,by go_num,fun j hj h=>by by_cases e:j=k;(· subst e;exact HG.out);exact HN.out j hj (by omega)⟩
       case measure=>simp[intOf];omega
     ·have LP:Hid (∀ a∈ag,gN (l.take p.length) a.toNat≠-1):=fun a ha=>by
       obtain⟨j,hj,rfl⟩:=List.getElem_of_mem ha
       exact HN.out j hj (by omega)
      have hks:so.length<=k:=by have:=HC.out;omega
      clear HN
      cases b1 with
      | true =>
       simp only[Bool.not_true]at e3
       have TN:Hid (bX (aL p) ⟨nm,wd,ag⟩=true):=show bX (aL p) ⟨nm,wd,ag⟩=true by
        have ha:ag.all (fun a=>gN (aL p) a.toNat != -1)=true:=by rw[List.all_eq_true];intro a ha;rw[bne_iff_ne,HP.out];exact LP.out a ha
        simp only[bX,ha,ZK.out];rfl
       go_wp2_with fail
       go_loop [9] (fun i=>∃ k:Nat,k<=ag.length/\i=.int .i64 k/\∀ j (hj:j < ag.length) (hs:j < so.length),j < k->(fm (argWord p ag[j].toNat)).2=so[j].toNat) (fun i=>ag.length - (intOf i).toNat)
       case atStart=>exact⟨0,by omega,rfl,fun j hj hs h=>by omega⟩
       case round =>
        obtain⟨k,hk,rfl,hN⟩:=hrel
        have HN:Hid (∀ j (hj:j < ag.length) (hs:j < so.length),j < k->(fm (argWord p ag[j].toNat)).2=so[j].toNat):=hN
        clear hN
        by_cases hlt:k < ag.length
        ·have hks:k < so.length:=by have:=HC.out;omega
         have hsa:∀ h,(⟨ag.toArray⟩:ByteArray)[k]'h=ag[k]:=fun _=>rfl
         have hso:∀ h,(⟨so.toArray⟩:ByteArray)[k]'h=so[k]:=fun _=>rfl
         obtain⟨j,hj,hgj,-⟩:=p8 (p:=p) (nm:=ag[k].toNat) (by rw[HP.out];exact LP.out _ (List.getElem_mem hlt))
         have hjl:j < l.length:=by omega
         have hpj:p[j].1=l[j]:=by
          have h1:(aL p)[j]?=(l.take p.length)[j]?:=by rw[HP.out]
          simp[aL,hj,hjl]at h1
          exact h1
         have HW:Hid (argWord p ag[k].toNat=l[j].word):=show argWord p ag[k].toNat=l[j].word by simp[argWord,yM hj hgj,hpj]
         have HJ:Hid (gN (l.take p.length) ag[k].toNat=(j:Int)):=show gN (l.take p.length) ag[k].toNat=(j:Int) by rw[<- HP.out];exact hgj
         obtain⟨gb',hgb',-,d1,-⟩:=hL1.cell hjl
         cases hgb'
         clear hgj hpj
         have hF2:=Ac ⟨l[j].word.toArray⟩ W
         rw[ByteArray.toList_mk]at hF2
         have Fa:Hid (Calls Tryz.prog 148 #[S l[j].word] W fun e w'=>e=.returned (.tuple #[S (fm l[j].word).1,.int .u8 (fm l[j].word).2])/\W=w'):=hF2
         clear hF2
         generalize l[j].word=wj at *
         generalize (fm wj).1=f1 at *
         generalize hf2:(fm wj).2=f2 at *
         have HF:Hid ((fm wj).2=f2):=hf2
         clear hf2
         by_cases he:f2=so[k].toNat
         ·have HEQ:Hid (f2=so[k].toNat):=he
          have hbe:((f2:Int) != (so[k].toNat:Int))=false:=by rw[he];simp
          clear he
          go_wp2_with fail
          have hgv:=iL (.slice (some ⟨gb,0,none⟩) l.length cap) l p.length ag[k].toNat base W hl (by omega) hL1
          rw[HJ.out]at hgv
          refine hgv.mono ?_
          rintro e w2 ⟨rfl,rfl⟩
          clear hgv
          go_wp2_with fail
          refine Fa.out.mono ?_
          rintro e w2 ⟨rfl,rfl⟩
          go_wp2
          go_round
          case rel=>exact⟨k+1,by omega,by go_num,fun j hj hs h=>by by_cases e:j=k;(· subst e;rw[HW.out,HF.out];exact HEQ.out);exact HN.out j hj hs (by omega)⟩
          case measure=>simp[intOf];omega
         ·have hbe:((f2:Int) != (so[k].toNat:Int))=true:=by rw[bne_iff_ne];omega
          go_wp2_with fail
          have hgv:=iL (.slice (some ⟨gb,0,none⟩) l.length cap) l p.length ag[k].toNat base W hl (by omega) hL1
          rw[HJ.out]at hgv
          refine hgv.mono ?_
          rintro e w2 ⟨rfl,rfl⟩
          clear hgv
          go_wp2_with fail
          refine Fa.out.mono ?_
          rintro e w2 ⟨rfl,rfl⟩
          go_wp2
          go_ret
          have HR:er=6:=by
           have h6:eU p ag so=false:=Dk hlt hks (by rw[HW.out,HF.out];exact he)
           rw[HE.out,Fb.out,TN.out,h6];simp[HC.out]
          exact⟨by rw[HR];rfl,hm0⟩
        ·have H6:Hid (eU p ag so=true):=BM (fun j hj hs=>HN.out j hj hs (by omega))
         have hks:so.length<=k:=by have:=HC.out;omega
         clear HN
         have hW:=Xu.out W hL1 (by rw[HP.out];exact LP.out) UN
         have HW:Hid (Calls Tryz.prog 103 #[.slice (some ⟨gb,0,none⟩) l.length cap,.int .i64 p.length] W fun e w'=>e=.returned (.int .i64 (xD p ⟨nm,wd,ag⟩))/\W=w'):=hW
         clear hW Xu
         generalize xD p ⟨nm,wd,ag⟩=wv at *
         by_cases h64:64 < wv
         ·have HR:Hid (er=7):=show er=7 by rw[HE.out,Fb.out,TN.out,H6.out];simp[HC.out,h64]
          go_wp2_with fail
          refine HW.out.mono ?_
          rintro e w2 ⟨rfl,rfl⟩
          go_wp2
          go_ret
          exact⟨by rw[HR.out];rfl,hm0⟩
         ·have HR:Hid (er=0):=show er=0 by rw[HE.out,Fb.out,TN.out,H6.out];simp[HC.out,h64]
          go_wp2_with fail
          refine HW.out.mono ?_
          rintro e w2 ⟨rfl,rfl⟩
          go_wp2
          go_ret
          exact⟨by rw[HR.out];rfl,hm0⟩
      | false =>
       simp only[Bool.not_false]at e3
       rcases Qc (l.take p.length) nm with hg | hg
       ·have HG:Hid (gN (l.take p.length) nm=-1):=hg
        clear hg
        have TN:Hid (bX (aL p) ⟨nm,wd,ag⟩=true):=show bX (aL p) ⟨nm,wd,ag⟩=true by
         have ha:ag.all (fun a=>gN (aL p) a.toNat != -1)=true:=by rw[List.all_eq_true];intro a ha;rw[bne_iff_ne,HP.out];exact LP.out a ha
         have hgn:gN (aL p) nm=-1:=by rw[HP.out];exact HG.out
         simp only[bX,ha,ZK.out,hgn];rfl
        go_wp2_with fail
        have hgv:=iL (.slice (some ⟨gb,0,none⟩) l.length cap) l p.length nm base W hl (by omega) hL1
        rw[HG.out]at hgv
        refine hgv.mono ?_
        rintro e w2 ⟨rfl,rfl⟩
        clear hgv
        go_wp2_with fail
        go_loop [9] (fun i=>∃ k:Nat,k<=ag.length/\i=.int .i64 k/\∀ j (hj:j < ag.length) (hs:j < so.length),j < k->(fm (argWord p ag[j].toNat)).2=so[j].toNat) (fun i=>ag.length - (intOf i).toNat)
        case atStart=>exact⟨0,by omega,rfl,fun j hj hs h=>by omega⟩
        case round =>
         obtain⟨k,hk,rfl,hN⟩:=hrel
         have HN:Hid (∀ j (hj:j < ag.length) (hs:j < so.length),j < k->(fm (argWord p ag[j].toNat)).2=so[j].toNat):=hN
         clear hN
         by_cases hlt:k < ag.length
         ·have hks:k < so.length:=by have:=HC.out;omega
          have hsa:∀ h,(⟨ag.toArray⟩:ByteArray)[k]'h=ag[k]:=fun _=>rfl
          have hso:∀ h,(⟨so.toArray⟩:ByteArray)[k]'h=so[k]:=fun _=>rfl
          obtain⟨j,hj,hgj,-⟩:=p8 (p:=p) (nm:=ag[k].toNat) (by rw[HP.out];exact LP.out _ (List.getElem_mem hlt))
          have hjl:j < l.length:=by omega
          have hpj:p[j].1=l[j]:=by
           have h1:(aL p)[j]?=(l.take p.length)[j]?:=by rw[HP.out]
           simp[aL,hj,hjl]at h1
           exact h1
          have HW:Hid (argWord p ag[k].toNat=l[j].word):=show argWord p ag[k].toNat=l[j].word by simp[argWord,yM hj hgj,hpj]
          have HJ:Hid (gN (l.take p.length) ag[k].toNat=(j:Int)):=show gN (l.take p.length) ag[k].toNat=(j:Int) by rw[<- HP.out];exact hgj
          obtain⟨gb',hgb',-,d1,-⟩:=hL1.cell hjl
          cases hgb'
          clear hgj hpj
          have hF2:=Ac ⟨l[j].word.toArray⟩ W
          rw[ByteArray.toList_mk]at hF2
          have Fa:Hid (Calls Tryz.prog 148 #[S l[j].word] W fun e w'=>e=.returned (.tuple #[S (fm l[j].word).1,.int .u8 (fm l[j].word).2])/\W=w'):=hF2
          clear hF2
          generalize l[j].word=wj at *
          generalize (fm wj).1=f1 at *
          generalize hf2:(fm wj).2=f2 at *
          have HF:Hid ((fm wj).2=f2):=hf2
          clear hf2
          by_cases he:f2=so[k].toNat
          ·have HEQ:Hid (f2=so[k].toNat):=he
           have hbe:((f2:Int) != (so[k].toNat:Int))=false:=by rw[he];simp
           clear he
           go_wp2_with fail
           have hgv:=iL (.slice (some ⟨gb,0,none⟩) l.length cap) l p.length ag[k].toNat base W hl (by omega) hL1
           rw[HJ.out]at hgv
           refine hgv.mono ?_
           rintro e w2 ⟨rfl,rfl⟩
           clear hgv
           go_wp2_with fail
           refine Fa.out.mono ?_
           rintro e w2 ⟨rfl,rfl⟩
           go_wp2
           go_round
           case rel=>exact⟨k+1,by omega,by go_num,fun j hj hs h=>by by_cases e:j=k;(· subst e;rw[HW.out,HF.out];exact HEQ.out);exact HN.out j hj hs (by omega)⟩
           case measure=>simp[intOf];omega
          ·have hbe:((f2:Int) != (so[k].toNat:Int))=true:=by rw[bne_iff_ne];omega
           go_wp2_with fail
           have hgv:=iL (.slice (some ⟨gb,0,none⟩) l.length cap) l p.length ag[k].toNat base W hl (by omega) hL1
           rw[HJ.out]at hgv
           refine hgv.mono ?_
           rintro e w2 ⟨rfl,rfl⟩
           clear hgv
           go_wp2_with fail
           refine Fa.out.mono ?_
           rintro e w2 ⟨rfl,rfl⟩
           go_wp2
           go_ret
           have HR:er=6:=by
            have h6:eU p ag so=false:=Dk hlt hks (by rw[HW.out,HF.out];exact he)
            rw[HE.out,Fb.out,TN.out,h6];simp[HC.out]
           exact⟨by rw[HR];rfl,hm0⟩
         ·have H6:Hid (eU p ag so=true):=BM (fun j hj hs=>HN.out j hj hs (by omega))
          have hks:so.length<=k:=by have:=HC.out;omega
          clear HN
          have hW:=Xu.out W hL1 (by rw[HP.out];exact LP.out) UN
          have HW:Hid (Calls Tryz.prog 103 #[.slice (some ⟨gb,0,none⟩) l.length cap,.int .i64 p.length] W fun e w'=>e=.returned (.int .i64 (xD p ⟨nm,wd,ag⟩))/\W=w'):=hW
          clear hW Xu
          generalize xD p ⟨nm,wd,ag⟩=wv at *
          by_cases h64:64 < wv
          ·have HR:Hid (er=7):=show er=7 by rw[HE.out,Fb.out,TN.out,H6.out];simp[HC.out,h64]
           go_wp2_with fail
           refine HW.out.mono ?_
           rintro e w2 ⟨rfl,rfl⟩
           go_wp2
           go_ret
           exact⟨by rw[HR.out];rfl,hm0⟩
          ·have HR:Hid (er=0):=show er=0 by rw[HE.out,Fb.out,TN.out,H6.out];simp[HC.out,h64]
           go_wp2_with fail
           refine HW.out.mono ?_
           rintro e w2 ⟨rfl,rfl⟩
           go_wp2
           go_ret
           exact⟨by rw[HR.out];rfl,hm0⟩
       ·have TN:Hid (bX (aL p) ⟨nm,wd,ag⟩=false):=show bX (aL p) ⟨nm,wd,ag⟩=false by
         have h1:(gN (aL p) nm == -1)=false:=by rw[beq_eq_false_iff_ne,HP.out];omega
         simp[bX,ZK.out,h1]
        have HR:Hid (er=5):=show er=5 by rw[HE.out,Fb.out,TN.out];simp[HC.out]
        go_wp2_with fail
        refine (iL (.slice (some ⟨gb,0,none⟩) l.length cap) l p.length nm base W hl (by omega) hL1).mono ?_
        rintro e w2 ⟨rfl,rfl⟩
        go_wp2
        go_ret
        exact⟨by rw[HR.out];rfl,hm0⟩
   ·have hcb:((ag.length:Int) != (so.length:Int))=true:=by rw[bne_iff_ne];omega
    have HR:Hid (er=4):=show er=4 by rw[HE.out,Fb.out];simp[hc]
    go_in
    go_wp2_with fail
    refine HFM.out.mono ?_
    rintro e w2 ⟨rfl,rfl⟩
    go_wp2
    go_ret
    exact⟨by rw[HR.out];rfl,hm0⟩
  ·have hb2:b2=!b1:=by cases b1<;>cases b2<;>simp_all
   subst hb2
   have HR:Hid (er=3):=show er=3 by rw[HE.out,hkn'];simp
   clear HE hkn' Xu hbb
   go_in
   go_wp2_with fail
   refine HFM.out.mono ?_
   rintro e w2 ⟨rfl,rfl⟩
   go_wp2
   go_ret
   exact⟨by rw[HR.out];rfl,hm0⟩
theorem Pu.ou {s:ByteArray} (h:Whole s):g s 0≠61:=by
 obtain⟨x,hx,_⟩:=h
 by_cases h0:s.size=0
 ·rw[FQ (by omega)];decide
 ·obtain⟨d,hd⟩:∃ d,s.size=1+d:=⟨s.size - 1,by omega⟩
  rw[hd]at hx
  obtain⟨y,hy⟩:=SG hx
  intro he
  simp[stA,nx,he,gU]at hy
theorem oW (s:ByteArray) (w:World) (hs:300 < s.size) (hm:s.size<=maxLen):Calls Tryz.prog 59 #[.string s] w fun e w'=>e=.returned (.tuple #[.int .i64 1,.int .i64 0])/\w=w':=by
 unfold maxLen at hm
 go_in
 go_wp2
 go_ret2
 exact⟨rfl,rfl⟩
theorem og (s:ByteArray) (w:World) (hs:s.size<=300):Calls Tryz.prog 59 #[.string s] w fun e w'=>(∃ a b:Nat,EW s a b/\e=.returned (.tuple #[.int .i64 a,.int .i64 b]))/\Mod (fun _=>False) w w':=by
 go_in
 go_wp2_with fail
 refine (NZ s w hs).mono ?_
 rintro e w1 ⟨hm1,⟨rfl,hw⟩ | ⟨k,rfl,hst⟩⟩
 ·go_wp2_with fail
  refine (qC s w1 hs (ou hw)).mono ?_
  rintro e w2 ⟨hm2,v,rfl,hL⟩
  have hll:=(D7 s s.size).1
  have ZF:Hid (∀ (a b:Nat) (p:List (St × Nat)) (hk:b < (bF s s.size).l.length),Ok p->aL p=(bF s s.size).l.take b->err p (bF s s.size).l[b]≠0->a=err p (bF s s.size).l[b]->EW s a b):=fun a b p hk h1 h2 h3 h4=>.inr (.inl ⟨hw,p,hk,h1,h2,h3,h4⟩)
  have HOk:Hid (∀ p,Ok p->aL p=(bF s s.size).l->EW s 0 0):=fun p h1 h2=>.inr (.inr ⟨hw,rfl,rfl,p,h1,h2⟩)
  generalize (bF s s.size).l=l at *
  have hm:=hm1.trans hm2
  clear hm1 hm2
  obtain⟨ao,cap,rfl,-⟩:=aj hL
  go_wp2_with fail
  go_loopw [6] (fun i wr=>∃ (k:Nat) (p:List (St × Nat)),k<=l.length/\i=.int .i64 k/\p.length=k/\Ok p/\aL p=l.take p.length/\mE wr w1.heap.size (.slice ao l.length cap) l/\Mod (fun _=>False) w wr) (fun i _=>l.length - (intOf i).toNat)
  case atStart=>exact⟨0,[],by omega,rfl,rfl,Ok.nil,rfl,hL,hm⟩
  case round =>
   clear hL hm
   obtain⟨k,p,hk,rfl,rfl,hok,hp,hL,hm⟩:=hrel
   have HP:Hid (aL p=l.take p.length):=hp
   clear hp
   by_cases hlt:p.length < l.length
   ·by_cases he:err p l[p.length]=0
    ·have HE:Hid (err p l[p.length]=0):=he
     clear he
     go_wp2_with fail
     have hF:=CU _ l w1.heap.size wr p (by omega) hL hok HP.out hlt
     rw[HE.out]at hF
     refine hF.mono ?_
     clear hF
     rintro e w3 ⟨rfl,aC⟩
     have hL3:=hL.mod aC
     have aO:=hm.trans aC
     clear hL hm aC
     go_wp2
     go_roundw
     case rel=>exact⟨p.length+1,p++[(l[p.length],xD p l[p.length])],by omega,by go_num,by simp,hok.snoc HE.out,by
      rw[List.length_append];simp only[aL,List.map_append];rw[show (p.map Prod.fst)=l.take p.length from HP.out];exact (take_snoc' l p.length hlt).symm,hL3,aO⟩
     case measure=>simp[intOf];omega
    ·have hF:=CU _ l w1.heap.size wr p (by omega) hL hok HP.out hlt
     have HF:Hid (Calls Tryz.prog 100 #[.slice ao l.length cap,.int .i64 p.length] wr fun e w'=>e=.returned (.int .i64 (err p l[p.length]))/\Mod (fun _=>False) wr w'):=hF
     have HA:Hid (EW s (err p l[p.length]) p.length):=ZF.out _ _ p hlt hok HP.out he rfl
     clear hF ZF HOk
     generalize err p l[p.length]=er at *
     have hb:((er:Int) != 0)=true:=by rw[bne_iff_ne];omega
     go_wp2_with fail
     refine HF.out.mono ?_
     rintro e w3 ⟨rfl,aC⟩
     go_wp2
     go_ret2
     exact⟨⟨er,p.length,HA.out,rfl⟩,hm.trans aC⟩
   ·have HA:Hid (EW s 0 0):=HOk.out p hok (by rw[HP.out,List.take_of_length_le (by omega)])
    go_wp2
    go_ret2
    exact⟨⟨0,0,HA.out,rfl⟩,hm⟩
 ·go_wp2
  go_ret2
  exact⟨⟨2,k,.inl ⟨hst,rfl⟩,rfl⟩,hm1⟩
end Go.Proofs.YtmnfndpbblpjiabGreatDoor
