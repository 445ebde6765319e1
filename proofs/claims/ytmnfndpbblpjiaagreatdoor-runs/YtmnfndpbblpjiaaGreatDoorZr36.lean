/- The maker's constructions, word by word. -/
import Derived.Test.YtmnfndpbblpjiaaGreatDoorZr27
import Derived.Test.YtmnfndpbblpjiaaGreatDoorZr34
import Derived.Test.YtmnfndpbblpjiaaGreatDoorZr35
namespace Go.Proofs.YtmnfndpbblpjiaaGreatDoor
open Go.RowKit Pu
theorem MkEnd.md {a b c:World} {mb s i:Nat} {L:List Stp} (h:MkEnd a b mb L s i) (hm:Mod (fun _=>False) b c):MkEnd a c mb L s i:=⟨Kp.trans h.1 (Kp.of hm),h.2.mod hm⟩
set_option maxHeartbeats 800000 in
theorem mcon_pt (mb:Nat) (L:List Stp) (s i:Nat) (t:Th) (w:World) (hM:Mkr w mb L s i) (hroom:Room L s 3) (_h8:S12 t) (hin:i < 100) :
  Calls Tryz.prog 60 #[mP mb,S [112,116],thV t] w fun e w'=>e=.returned (trV (givenR s))∧MkEnd w w' mb (L++givenL s i) (s+3) (i+2):=by
 have r2:=hroom.2
 have E0:MkEnd w ((w.alloc (thB t)).alloc trZ) mb L s i:=MkEnd.al (MkEnd.al (show MkEnd w w mb L s i from ⟨Kp.refl mb w,hM⟩) _) _
 have f_t:AtH ((w.alloc (thB t)).alloc trZ) w.heap.size t:=(AtH.new w t).al _
 have f_R:At3 ((w.alloc (thB t)).alloc trZ) (w.heap.size+1) (.int .u8 0) (.int .u8 0) (.int .u8 0):=by
  have h:=heap_alloc_new (w.alloc (thB t)) trZ
  simp only [sz_al] at h
  exact h
 have hsz:w.heap.size+1 < ((w.alloc (thB t)).alloc trZ).heap.size:=by simp only [sz_al];omega
 obtain ⟨c0,c1,c2,c3,c4,c5,c6,c7,c8,c9,c10,c11⟩:=f_t.cs
 have HH:Hid _:=And.intro E0 (And.intro hsz f_R)
 clear E0 f_t f_R hM hsz
 go_enter Tryz.func60,Tryz.ntmps60
 go_wp2_with fail
 generalize (w.alloc (.cells #[rV t.a.x,rV t.a.y,rV t.a.w,rV t.b.x,rV t.b.y,rV t.b.w,rV t.c.x,rV t.c.y,rV t.c.w,rV t.d.x,rV t.d.y,rV t.d.w] 90)).alloc (.cells #[.int .u8 0,.int .u8 0,.int .u8 0] 88)=w0 at *
 clear c0 c1 c2 c3 c4 c5 c6 c7 c8 c9 c10 c11
 obtain ⟨E0,hsz,f_R⟩:=HH.out
 clear HH
 refine (mgiv_any mb _ s i w0 E0.2 (hroom.mono (by omega)) hin).mono ?_
 rintro e w1 ⟨rfl,k1⟩
 have E1:=MkEnd.trans E0 k1
 replace f_R:=At3.kp f_R k1.1
 replace hsz:=Nat.lt_of_lt_of_le hsz k1.1.size
 have z0:=fz3 f_R 0
 have z1:=fz3 f_R 1
 have z2:=fz3 f_R 2
 obtain ⟨y0,y1,y2⟩:=cells3 f_R
 have HC:Hid _:=cells3 (set3_at (x':=rV (givenR s).x) (y':=rV (givenR s).y) (z':=rV (givenR s).w) f_R)
 have HE:Hid _:=MkEnd.st (x':=rV (givenR s).x) (y':=rV (givenR s).y) (z':=rV (givenR s).w) E1 f_R (by omega)
 clear k1 E0 E1 f_R hroom
 go_wp2_with fail
 obtain ⟨g0,g1,g2⟩:=HC.out
 unfold set3 at g0 g1 g2
 exact bodyPost_ret (v:=trV (givenR s)) (by simp [results,Tryz.results60,go_sem,g0,g1,g2]) rfl ⟨rfl,HE.out⟩
set_option maxHeartbeats 800000 in
theorem mcon_mid (mb:Nat) (L:List Stp) (s i:Nat) (t:Th) (w:World) (hM:Mkr w mb L s i) (hroom:Room L s 8) (h8:S12 t) :
  Calls Tryz.prog 60 #[mP mb,S [109,105,100],thV t] w fun e w'=>e=.returned (trV (midR s))∧MkEnd w w' mb (L++midL s t.a t.b) (s+8) (i):=by
 have r2:=hroom.2
 have E0:MkEnd w ((w.alloc (thB t)).alloc trZ) mb L s i:=MkEnd.al (MkEnd.al (show MkEnd w w mb L s i from ⟨Kp.refl mb w,hM⟩) _) _
 have f_t:AtH ((w.alloc (thB t)).alloc trZ) w.heap.size t:=(AtH.new w t).al _
 have f_R:At3 ((w.alloc (thB t)).alloc trZ) (w.heap.size+1) (.int .u8 0) (.int .u8 0) (.int .u8 0):=by
  have h:=heap_alloc_new (w.alloc (thB t)) trZ
  simp only [sz_al] at h
  exact h
 have hsz:w.heap.size+1 < ((w.alloc (thB t)).alloc trZ).heap.size:=by simp only [sz_al];omega
 obtain ⟨c0,c1,c2,c3,c4,c5,c6,c7,c8,c9,c10,c11⟩:=f_t.cs
 have HH:Hid _:=And.intro E0 (And.intro hsz f_R)
 clear E0 f_t f_R hM hsz
 go_enter Tryz.func60,Tryz.ntmps60
 go_wp2_with fail
 generalize (w.alloc (.cells #[rV t.a.x,rV t.a.y,rV t.a.w,rV t.b.x,rV t.b.y,rV t.b.w,rV t.c.x,rV t.c.y,rV t.c.w,rV t.d.x,rV t.d.y,rV t.d.w] 90)).alloc (.cells #[.int .u8 0,.int .u8 0,.int .u8 0] 88)=w0 at *
 clear c0 c1 c2 c3 c4 c5 c6 c7 c8 c9 c10 c11
 obtain ⟨E0,hsz,f_R⟩:=HH.out
 clear HH
 refine (mmid_any mb _ s i t.a t.b w0 E0.2 (hroom.mono (by omega)) h8.a h8.b).mono ?_
 rintro e w1 ⟨rfl,k1⟩
 have E1:=MkEnd.trans E0 k1
 replace f_R:=At3.kp f_R k1.1
 replace hsz:=Nat.lt_of_lt_of_le hsz k1.1.size
 have z0:=fz3 f_R 0
 have z1:=fz3 f_R 1
 have z2:=fz3 f_R 2
 obtain ⟨y0,y1,y2⟩:=cells3 f_R
 have HC:Hid _:=cells3 (set3_at (x':=rV (midR s).x) (y':=rV (midR s).y) (z':=rV (midR s).w) f_R)
 have HE:Hid _:=MkEnd.st (x':=rV (midR s).x) (y':=rV (midR s).y) (z':=rV (midR s).w) E1 f_R (by omega)
 clear k1 E0 E1 f_R hroom
 go_wp2_with fail
 obtain ⟨g0,g1,g2⟩:=HC.out
 unfold set3 at g0 g1 g2
 exact bodyPost_ret (v:=trV (midR s)) (by simp [results,Tryz.results60,go_sem,g0,g1,g2]) rfl ⟨rfl,HE.out⟩
set_option maxHeartbeats 800000 in
theorem mcon_par (mb:Nat) (L:List Stp) (s i:Nat) (t:Th) (w:World) (hM:Mkr w mb L s i) (hroom:Room L s 7) (h8:S12 t) :
  Calls Tryz.prog 60 #[mP mb,S [112,97,114],thV t] w fun e w'=>e=.returned (trV (parR s))∧MkEnd w w' mb (L++parL s t.a t.b) (s+7) (i):=by
 have r2:=hroom.2
 have E0:MkEnd w ((w.alloc (thB t)).alloc trZ) mb L s i:=MkEnd.al (MkEnd.al (show MkEnd w w mb L s i from ⟨Kp.refl mb w,hM⟩) _) _
 have f_t:AtH ((w.alloc (thB t)).alloc trZ) w.heap.size t:=(AtH.new w t).al _
 have f_R:At3 ((w.alloc (thB t)).alloc trZ) (w.heap.size+1) (.int .u8 0) (.int .u8 0) (.int .u8 0):=by
  have h:=heap_alloc_new (w.alloc (thB t)) trZ
  simp only [sz_al] at h
  exact h
 have hsz:w.heap.size+1 < ((w.alloc (thB t)).alloc trZ).heap.size:=by simp only [sz_al];omega
 obtain ⟨c0,c1,c2,c3,c4,c5,c6,c7,c8,c9,c10,c11⟩:=f_t.cs
 have HH:Hid _:=And.intro E0 (And.intro hsz f_R)
 clear E0 f_t f_R hM hsz
 go_enter Tryz.func60,Tryz.ntmps60
 go_wp2_with fail
 generalize (w.alloc (.cells #[rV t.a.x,rV t.a.y,rV t.a.w,rV t.b.x,rV t.b.y,rV t.b.w,rV t.c.x,rV t.c.y,rV t.c.w,rV t.d.x,rV t.d.y,rV t.d.w] 90)).alloc (.cells #[.int .u8 0,.int .u8 0,.int .u8 0] 88)=w0 at *
 clear c0 c1 c2 c3 c4 c5 c6 c7 c8 c9 c10 c11
 obtain ⟨E0,hsz,f_R⟩:=HH.out
 clear HH
 refine (mpar_any mb _ s i t.a t.b w0 E0.2 (hroom.mono (by omega)) h8.a h8.b).mono ?_
 rintro e w1 ⟨rfl,k1⟩
 have E1:=MkEnd.trans E0 k1
 replace f_R:=At3.kp f_R k1.1
 replace hsz:=Nat.lt_of_lt_of_le hsz k1.1.size
 have z0:=fz3 f_R 0
 have z1:=fz3 f_R 1
 have z2:=fz3 f_R 2
 obtain ⟨y0,y1,y2⟩:=cells3 f_R
 have HC:Hid _:=cells3 (set3_at (x':=rV (parR s).x) (y':=rV (parR s).y) (z':=rV (parR s).w) f_R)
 have HE:Hid _:=MkEnd.st (x':=rV (parR s).x) (y':=rV (parR s).y) (z':=rV (parR s).w) E1 f_R (by omega)
 clear k1 E0 E1 f_R hroom
 go_wp2_with fail
 obtain ⟨g0,g1,g2⟩:=HC.out
 unfold set3 at g0 g1 g2
 exact bodyPost_ret (v:=trV (parR s)) (by simp [results,Tryz.results60,go_sem,g0,g1,g2]) rfl ⟨rfl,HE.out⟩
set_option maxHeartbeats 800000 in
theorem mcon_perp (mb:Nat) (L:List Stp) (s i:Nat) (t:Th) (w:World) (hM:Mkr w mb L s i) (hroom:Room L s 9) (h8:S12 t) :
  Calls Tryz.prog 60 #[mP mb,S [112,101,114,112],thV t] w fun e w'=>e=.returned (trV (uprR s))∧MkEnd w w' mb (L++uprL s t.a t.b) (s+9) (i):=by
 have r2:=hroom.2
 have E0:MkEnd w ((w.alloc (thB t)).alloc trZ) mb L s i:=MkEnd.al (MkEnd.al (show MkEnd w w mb L s i from ⟨Kp.refl mb w,hM⟩) _) _
 have f_t:AtH ((w.alloc (thB t)).alloc trZ) w.heap.size t:=(AtH.new w t).al _
 have f_R:At3 ((w.alloc (thB t)).alloc trZ) (w.heap.size+1) (.int .u8 0) (.int .u8 0) (.int .u8 0):=by
  have h:=heap_alloc_new (w.alloc (thB t)) trZ
  simp only [sz_al] at h
  exact h
 have hsz:w.heap.size+1 < ((w.alloc (thB t)).alloc trZ).heap.size:=by simp only [sz_al];omega
 obtain ⟨c0,c1,c2,c3,c4,c5,c6,c7,c8,c9,c10,c11⟩:=f_t.cs
 have HH:Hid _:=And.intro E0 (And.intro hsz f_R)
 clear E0 f_t f_R hM hsz
 go_enter Tryz.func60,Tryz.ntmps60
 go_wp2_with fail
 generalize (w.alloc (.cells #[rV t.a.x,rV t.a.y,rV t.a.w,rV t.b.x,rV t.b.y,rV t.b.w,rV t.c.x,rV t.c.y,rV t.c.w,rV t.d.x,rV t.d.y,rV t.d.w] 90)).alloc (.cells #[.int .u8 0,.int .u8 0,.int .u8 0] 88)=w0 at *
 clear c0 c1 c2 c3 c4 c5 c6 c7 c8 c9 c10 c11
 obtain ⟨E0,hsz,f_R⟩:=HH.out
 clear HH
 refine (mupr_any mb _ s i t.a t.b w0 E0.2 (hroom.mono (by omega)) h8.a h8.b).mono ?_
 rintro e w1 ⟨rfl,k1⟩
 have E1:=MkEnd.trans E0 k1
 replace f_R:=At3.kp f_R k1.1
 replace hsz:=Nat.lt_of_lt_of_le hsz k1.1.size
 have z0:=fz3 f_R 0
 have z1:=fz3 f_R 1
 have z2:=fz3 f_R 2
 obtain ⟨y0,y1,y2⟩:=cells3 f_R
 have HC:Hid _:=cells3 (set3_at (x':=rV (uprR s).x) (y':=rV (uprR s).y) (z':=rV (uprR s).w) f_R)
 have HE:Hid _:=MkEnd.st (x':=rV (uprR s).x) (y':=rV (uprR s).y) (z':=rV (uprR s).w) E1 f_R (by omega)
 clear k1 E0 E1 f_R hroom
 go_wp2_with fail
 obtain ⟨g0,g1,g2⟩:=HC.out
 unfold set3 at g0 g1 g2
 exact bodyPost_ret (v:=trV (uprR s)) (by simp [results,Tryz.results60,go_sem,g0,g1,g2]) rfl ⟨rfl,HE.out⟩
set_option maxHeartbeats 800000 in
theorem mcon_foot (mb:Nat) (L:List Stp) (s i:Nat) (t:Th) (w:World) (hM:Mkr w mb L s i) (hroom:Room L s 18) (h8:S12 t) :
  Calls Tryz.prog 60 #[mP mb,S [102,111,111,116],thV t] w fun e w'=>e=.returned (trV (footR s))∧MkEnd w w' mb (L++footL s t.a t.b) (s+18) (i):=by
 have r2:=hroom.2
 have E0:MkEnd w ((w.alloc (thB t)).alloc trZ) mb L s i:=MkEnd.al (MkEnd.al (show MkEnd w w mb L s i from ⟨Kp.refl mb w,hM⟩) _) _
 have f_t:AtH ((w.alloc (thB t)).alloc trZ) w.heap.size t:=(AtH.new w t).al _
 have f_R:At3 ((w.alloc (thB t)).alloc trZ) (w.heap.size+1) (.int .u8 0) (.int .u8 0) (.int .u8 0):=by
  have h:=heap_alloc_new (w.alloc (thB t)) trZ
  simp only [sz_al] at h
  exact h
 have hsz:w.heap.size+1 < ((w.alloc (thB t)).alloc trZ).heap.size:=by simp only [sz_al];omega
 obtain ⟨c0,c1,c2,c3,c4,c5,c6,c7,c8,c9,c10,c11⟩:=f_t.cs
 have HH:Hid _:=And.intro E0 (And.intro hsz f_R)
 clear E0 f_t f_R hM hsz
 go_enter Tryz.func60,Tryz.ntmps60
 go_wp2_with fail
 generalize (w.alloc (.cells #[rV t.a.x,rV t.a.y,rV t.a.w,rV t.b.x,rV t.b.y,rV t.b.w,rV t.c.x,rV t.c.y,rV t.c.w,rV t.d.x,rV t.d.y,rV t.d.w] 90)).alloc (.cells #[.int .u8 0,.int .u8 0,.int .u8 0] 88)=w0 at *
 clear c0 c1 c2 c3 c4 c5 c6 c7 c8 c9 c10 c11
 obtain ⟨E0,hsz,f_R⟩:=HH.out
 clear HH
 refine (mfoot_any mb _ s i t.a t.b w0 E0.2 (hroom.mono (by omega)) h8.a h8.b).mono ?_
 rintro e w1 ⟨rfl,k1⟩
 have E1:=MkEnd.trans E0 k1
 replace f_R:=At3.kp f_R k1.1
 replace hsz:=Nat.lt_of_lt_of_le hsz k1.1.size
 have z0:=fz3 f_R 0
 have z1:=fz3 f_R 1
 have z2:=fz3 f_R 2
 obtain ⟨y0,y1,y2⟩:=cells3 f_R
 have HC:Hid _:=cells3 (set3_at (x':=rV (footR s).x) (y':=rV (footR s).y) (z':=rV (footR s).w) f_R)
 have HE:Hid _:=MkEnd.st (x':=rV (footR s).x) (y':=rV (footR s).y) (z':=rV (footR s).w) E1 f_R (by omega)
 clear k1 E0 E1 f_R hroom
 go_wp2_with fail
 obtain ⟨g0,g1,g2⟩:=HC.out
 unfold set3 at g0 g1 g2
 exact bodyPost_ret (v:=trV (footR s)) (by simp [results,Tryz.results60,go_sem,g0,g1,g2]) rfl ⟨rfl,HE.out⟩
set_option maxHeartbeats 800000 in
theorem mcon_mirror (mb:Nat) (L:List Stp) (s i:Nat) (t:Th) (w:World) (hM:Mkr w mb L s i) (hroom:Room L s 27) (h8:S12 t) :
  Calls Tryz.prog 60 #[mP mb,S [109,105,114,114,111,114],thV t] w fun e w'=>e=.returned (trV (mirR s))∧MkEnd w w' mb (L++mirL s t.a t.b) (s+27) (i):=by
 have r2:=hroom.2
 have E0:MkEnd w ((w.alloc (thB t)).alloc trZ) mb L s i:=MkEnd.al (MkEnd.al (show MkEnd w w mb L s i from ⟨Kp.refl mb w,hM⟩) _) _
 have f_t:AtH ((w.alloc (thB t)).alloc trZ) w.heap.size t:=(AtH.new w t).al _
 have f_R:At3 ((w.alloc (thB t)).alloc trZ) (w.heap.size+1) (.int .u8 0) (.int .u8 0) (.int .u8 0):=by
  have h:=heap_alloc_new (w.alloc (thB t)) trZ
  simp only [sz_al] at h
  exact h
 have hsz:w.heap.size+1 < ((w.alloc (thB t)).alloc trZ).heap.size:=by simp only [sz_al];omega
 obtain ⟨c0,c1,c2,c3,c4,c5,c6,c7,c8,c9,c10,c11⟩:=f_t.cs
 have HH:Hid _:=And.intro E0 (And.intro hsz f_R)
 clear E0 f_t f_R hM hsz
 go_enter Tryz.func60,Tryz.ntmps60
 go_wp2_with fail
 generalize (w.alloc (.cells #[rV t.a.x,rV t.a.y,rV t.a.w,rV t.b.x,rV t.b.y,rV t.b.w,rV t.c.x,rV t.c.y,rV t.c.w,rV t.d.x,rV t.d.y,rV t.d.w] 90)).alloc (.cells #[.int .u8 0,.int .u8 0,.int .u8 0] 88)=w0 at *
 clear c0 c1 c2 c3 c4 c5 c6 c7 c8 c9 c10 c11
 obtain ⟨E0,hsz,f_R⟩:=HH.out
 clear HH
 refine (mmir_any mb _ s i t.a t.b w0 E0.2 (hroom.mono (by omega)) h8.a h8.b).mono ?_
 rintro e w1 ⟨rfl,k1⟩
 have E1:=MkEnd.trans E0 k1
 replace f_R:=At3.kp f_R k1.1
 replace hsz:=Nat.lt_of_lt_of_le hsz k1.1.size
 have z0:=fz3 f_R 0
 have z1:=fz3 f_R 1
 have z2:=fz3 f_R 2
 obtain ⟨y0,y1,y2⟩:=cells3 f_R
 have HC:Hid _:=cells3 (set3_at (x':=rV (mirR s).x) (y':=rV (mirR s).y) (z':=rV (mirR s).w) f_R)
 have HE:Hid _:=MkEnd.st (x':=rV (mirR s).x) (y':=rV (mirR s).y) (z':=rV (mirR s).w) E1 f_R (by omega)
 clear k1 E0 E1 f_R hroom
 go_wp2_with fail
 obtain ⟨g0,g1,g2⟩:=HC.out
 unfold set3 at g0 g1 g2
 exact bodyPost_ret (v:=trV (mirR s)) (by simp [results,Tryz.results60,go_sem,g0,g1,g2]) rfl ⟨rfl,HE.out⟩
set_option maxHeartbeats 800000 in
theorem mcon_centre (mb:Nat) (L:List Stp) (s i:Nat) (t:Th) (w:World) (hM:Mkr w mb L s i) (hroom:Room L s 61) (h8:S12 t) :
  Calls Tryz.prog 60 #[mP mb,S [99,101,110,116,114,101],thV t] w fun e w'=>e=.returned (trV (cenR s))∧MkEnd w w' mb (L++cenL s t.a t.b t.c) (s+61) (i):=by
 have r2:=hroom.2
 have E0:MkEnd w ((w.alloc (thB t)).alloc trZ) mb L s i:=MkEnd.al (MkEnd.al (show MkEnd w w mb L s i from ⟨Kp.refl mb w,hM⟩) _) _
 have f_t:AtH ((w.alloc (thB t)).alloc trZ) w.heap.size t:=(AtH.new w t).al _
 have f_R:At3 ((w.alloc (thB t)).alloc trZ) (w.heap.size+1) (.int .u8 0) (.int .u8 0) (.int .u8 0):=by
  have h:=heap_alloc_new (w.alloc (thB t)) trZ
  simp only [sz_al] at h
  exact h
 have hsz:w.heap.size+1 < ((w.alloc (thB t)).alloc trZ).heap.size:=by simp only [sz_al];omega
 obtain ⟨c0,c1,c2,c3,c4,c5,c6,c7,c8,c9,c10,c11⟩:=f_t.cs
 have HH:Hid _:=And.intro E0 (And.intro hsz f_R)
 clear E0 f_t f_R hM hsz
 go_enter Tryz.func60,Tryz.ntmps60
 go_wp2_with fail
 generalize (w.alloc (.cells #[rV t.a.x,rV t.a.y,rV t.a.w,rV t.b.x,rV t.b.y,rV t.b.w,rV t.c.x,rV t.c.y,rV t.c.w,rV t.d.x,rV t.d.y,rV t.d.w] 90)).alloc (.cells #[.int .u8 0,.int .u8 0,.int .u8 0] 88)=w0 at *
 clear c0 c1 c2 c3 c4 c5 c6 c7 c8 c9 c10 c11
 obtain ⟨E0,hsz,f_R⟩:=HH.out
 clear HH
 refine (mcen_any mb _ s i t.a t.b t.c w0 E0.2 (hroom.mono (by omega)) h8.a h8.b h8.c).mono ?_
 rintro e w1 ⟨rfl,k1⟩
 have E1:=MkEnd.trans E0 k1
 replace f_R:=At3.kp f_R k1.1
 replace hsz:=Nat.lt_of_lt_of_le hsz k1.1.size
 have z0:=fz3 f_R 0
 have z1:=fz3 f_R 1
 have z2:=fz3 f_R 2
 obtain ⟨y0,y1,y2⟩:=cells3 f_R
 have HC:Hid _:=cells3 (set3_at (x':=rV (cenR s).x) (y':=rV (cenR s).y) (z':=rV (cenR s).w) f_R)
 have HE:Hid _:=MkEnd.st (x':=rV (cenR s).x) (y':=rV (cenR s).y) (z':=rV (cenR s).w) E1 f_R (by omega)
 clear k1 E0 E1 f_R hroom
 go_wp2_with fail
 obtain ⟨g0,g1,g2⟩:=HC.out
 unfold set3 at g0 g1 g2
 exact bodyPost_ret (v:=trV (cenR s)) (by simp [results,Tryz.results60,go_sem,g0,g1,g2]) rfl ⟨rfl,HE.out⟩
set_option maxHeartbeats 800000 in
theorem mcon_line (mb:Nat) (L:List Stp) (s i:Nat) (t:Th) (w:World) (hM:Mkr w mb L s i) (hroom:Room L s 9) (h8:S12 t) :
  Calls Tryz.prog 60 #[mP mb,S [108,105,110,101],thV t] w fun e w'=>e=.returned (trV (crossR s))∧MkEnd w w' mb (L++crossL s t.a t.b) (s+9) (i):=by
 have r2:=hroom.2
 have E0:MkEnd w ((w.alloc (thB t)).alloc trZ) mb L s i:=MkEnd.al (MkEnd.al (show MkEnd w w mb L s i from ⟨Kp.refl mb w,hM⟩) _) _
 have f_t:AtH ((w.alloc (thB t)).alloc trZ) w.heap.size t:=(AtH.new w t).al _
 have f_R:At3 ((w.alloc (thB t)).alloc trZ) (w.heap.size+1) (.int .u8 0) (.int .u8 0) (.int .u8 0):=by
  have h:=heap_alloc_new (w.alloc (thB t)) trZ
  simp only [sz_al] at h
  exact h
 have hsz:w.heap.size+1 < ((w.alloc (thB t)).alloc trZ).heap.size:=by simp only [sz_al];omega
 obtain ⟨c0,c1,c2,c3,c4,c5,c6,c7,c8,c9,c10,c11⟩:=f_t.cs
 have HH:Hid _:=And.intro E0 (And.intro hsz f_R)
 clear E0 f_t f_R hM hsz
 go_enter Tryz.func60,Tryz.ntmps60
 go_wp2_with fail
 generalize (w.alloc (.cells #[rV t.a.x,rV t.a.y,rV t.a.w,rV t.b.x,rV t.b.y,rV t.b.w,rV t.c.x,rV t.c.y,rV t.c.w,rV t.d.x,rV t.d.y,rV t.d.w] 90)).alloc (.cells #[.int .u8 0,.int .u8 0,.int .u8 0] 88)=w0 at *
 clear c0 c1 c2 c3 c4 c5 c6 c7 c8 c9 c10 c11
 obtain ⟨E0,hsz,f_R⟩:=HH.out
 clear HH
 refine (mcross_any mb _ s i t.a t.b w0 E0.2 (hroom.mono (by omega)) h8.a h8.b).mono ?_
 rintro e w1 ⟨rfl,k1⟩
 have E1:=MkEnd.trans E0 k1
 replace f_R:=At3.kp f_R k1.1
 replace hsz:=Nat.lt_of_lt_of_le hsz k1.1.size
 have z0:=fz3 f_R 0
 have z1:=fz3 f_R 1
 have z2:=fz3 f_R 2
 obtain ⟨y0,y1,y2⟩:=cells3 f_R
 have HC:Hid _:=cells3 (set3_at (x':=rV (crossR s).x) (y':=rV (crossR s).y) (z':=rV (crossR s).w) f_R)
 have HE:Hid _:=MkEnd.st (x':=rV (crossR s).x) (y':=rV (crossR s).y) (z':=rV (crossR s).w) E1 f_R (by omega)
 clear k1 E0 E1 f_R hroom
 go_wp2_with fail
 obtain ⟨g0,g1,g2⟩:=HC.out
 unfold set3 at g0 g1 g2
 exact bodyPost_ret (v:=trV (crossR s)) (by simp [results,Tryz.results60,go_sem,g0,g1,g2]) rfl ⟨rfl,HE.out⟩
set_option maxHeartbeats 800000 in
theorem mcon_meet (mb:Nat) (L:List Stp) (s i:Nat) (t:Th) (w:World) (hM:Mkr w mb L s i) (hroom:Room L s 9) (h8:S12 t) :
  Calls Tryz.prog 60 #[mP mb,S [109,101,101,116],thV t] w fun e w'=>e=.returned (trV (crossR s))∧MkEnd w w' mb (L++crossL s t.a t.b) (s+9) (i):=by
 have r2:=hroom.2
 have E0:MkEnd w ((w.alloc (thB t)).alloc trZ) mb L s i:=MkEnd.al (MkEnd.al (show MkEnd w w mb L s i from ⟨Kp.refl mb w,hM⟩) _) _
 have f_t:AtH ((w.alloc (thB t)).alloc trZ) w.heap.size t:=(AtH.new w t).al _
 have f_R:At3 ((w.alloc (thB t)).alloc trZ) (w.heap.size+1) (.int .u8 0) (.int .u8 0) (.int .u8 0):=by
  have h:=heap_alloc_new (w.alloc (thB t)) trZ
  simp only [sz_al] at h
  exact h
 have hsz:w.heap.size+1 < ((w.alloc (thB t)).alloc trZ).heap.size:=by simp only [sz_al];omega
 obtain ⟨c0,c1,c2,c3,c4,c5,c6,c7,c8,c9,c10,c11⟩:=f_t.cs
 have HH:Hid _:=And.intro E0 (And.intro hsz f_R)
 clear E0 f_t f_R hM hsz
 go_enter Tryz.func60,Tryz.ntmps60
 go_wp2_with fail
 generalize (w.alloc (.cells #[rV t.a.x,rV t.a.y,rV t.a.w,rV t.b.x,rV t.b.y,rV t.b.w,rV t.c.x,rV t.c.y,rV t.c.w,rV t.d.x,rV t.d.y,rV t.d.w] 90)).alloc (.cells #[.int .u8 0,.int .u8 0,.int .u8 0] 88)=w0 at *
 clear c0 c1 c2 c3 c4 c5 c6 c7 c8 c9 c10 c11
 obtain ⟨E0,hsz,f_R⟩:=HH.out
 clear HH
 refine (mcross_any mb _ s i t.a t.b w0 E0.2 (hroom.mono (by omega)) h8.a h8.b).mono ?_
 rintro e w1 ⟨rfl,k1⟩
 have E1:=MkEnd.trans E0 k1
 replace f_R:=At3.kp f_R k1.1
 replace hsz:=Nat.lt_of_lt_of_le hsz k1.1.size
 have z0:=fz3 f_R 0
 have z1:=fz3 f_R 1
 have z2:=fz3 f_R 2
 obtain ⟨y0,y1,y2⟩:=cells3 f_R
 have HC:Hid _:=cells3 (set3_at (x':=rV (crossR s).x) (y':=rV (crossR s).y) (z':=rV (crossR s).w) f_R)
 have HE:Hid _:=MkEnd.st (x':=rV (crossR s).x) (y':=rV (crossR s).y) (z':=rV (crossR s).w) E1 f_R (by omega)
 clear k1 E0 E1 f_R hroom
 go_wp2_with fail
 obtain ⟨g0,g1,g2⟩:=HC.out
 unfold set3 at g0 g1 g2
 exact bodyPost_ret (v:=trV (crossR s)) (by simp [results,Tryz.results60,go_sem,g0,g1,g2]) rfl ⟨rfl,HE.out⟩
set_option maxHeartbeats 800000 in
theorem mgrd_line (mb:Nat) (L:List Stp) (s i:Nat) (m:Tr) (k:Nat) (w:World) (hM:Mkr w mb L s i) (hroom:Room L s 4) (h8:S8 m) (hk:k < 16) :
  Calls Tryz.prog 61 #[mP mb,S [108,105,110,101],trV m,.int .i64 k] w fun e w'=>e=.returned (.tuple #[])∧MkEnd w w' mb (L++(prodS s m.x m.x m.y m.y++[⟨7,s+2,0,k⟩])) (s+3) i:=by
 have r2:=hroom.2
 have wk:IntKind.u8.wrap (k:Int)=(k:Int):=by simp [IntKind.wrap,IntKind.signed,IntKind.bits];omega
 have E0:MkEnd w (w.alloc (trO m)) mb L s i:=MkEnd.al (show MkEnd w w mb L s i from ⟨Kp.refl mb w,hM⟩) _
 have f_m:AtT (w.alloc (trO m)) w.heap.size m:=heap_alloc_new w _
 obtain ⟨c0,c1,c2⟩:=cells3 f_m
 have HH:Hid _:=And.intro E0 f_m
 clear E0 f_m hM
 go_enter Tryz.func61,Tryz.ntmps61
 go_wp2_with fail
 generalize w.alloc (.cells #[rV m.x,rV m.y,rV m.w] 88)=w0 at *
 clear c0 c1 c2
 obtain ⟨E0,f_m⟩:=HH.out
 clear HH
 refine (mpS_any mb _ s i m.x m.x m.y m.y w0 E0.2 (hroom.mono (by omega)) h8.1 h8.1 h8.2.1 h8.2.1).mono ?_
 rintro e w1 ⟨he,k1⟩
 obtain ⟨v,hv⟩:∃ x:Nat,x=s+2:=⟨_,rfl⟩
 have he2:e=.returned (rV v):=by rw [hv];exact he
 have b_v:v < 256:=by omega
 have Hv:Hid (v=s+2):=hv
 clear he hv
 subst he2
 have E1:=MkEnd.trans E0 k1
 have HH:Hid _:=E1
 clear k1 E0 E1 f_m
 go_wp2_with fail
 have E1:=HH.out
 clear HH
 refine (madd_any mb _ (s+3) i ⟨7,v,0,k⟩ w1 E1.2 (by have:=hroom.1;simp [prodS];omega) ⟨by show 7 < 256;omega,b_v,by show 0 < 256;omega,by show k < 256;omega⟩).mono ?_
 rintro e w2 ⟨rfl,k2,m2⟩
 have HE:Hid _:=MkEnd.trans E1 (show MkEnd w1 w2 mb _ (s+3) i from ⟨k2,m2⟩)
 clear k2 m2 E1
 go_wp2_with fail
 have hL:L++prodS s m.x m.x m.y m.y++[⟨7,v,0,k⟩]=L++(prodS s m.x m.x m.y m.y++[⟨7,s+2,0,k⟩]):=by rw [Hv.out,List.append_assoc]
 exact bodyPost_end (v:=.tuple #[]) (by simp [results,Tryz.results61]) rfl ⟨rfl,by rw [← hL];exact HE.out⟩
set_option maxHeartbeats 800000 in
theorem mgrd_meet (mb:Nat) (L:List Stp) (s i:Nat) (m:Tr) (k:Nat) (w:World) (hM:Mkr w mb L s i) (hroom:Room L s 4) (h8:S8 m) (hk:k < 16) :
  Calls Tryz.prog 61 #[mP mb,S [109,101,101,116],trV m,.int .i64 k] w fun e w'=>e=.returned (.tuple #[])∧MkEnd w w' mb (L++[⟨7,m.w,1,k⟩]) (s+0) i:=by
 have r2:=hroom.2
 have wk:IntKind.u8.wrap (k:Int)=(k:Int):=by simp [IntKind.wrap,IntKind.signed,IntKind.bits];omega
 have E0:MkEnd w (w.alloc (trO m)) mb L s i:=MkEnd.al (show MkEnd w w mb L s i from ⟨Kp.refl mb w,hM⟩) _
 have f_m:AtT (w.alloc (trO m)) w.heap.size m:=heap_alloc_new w _
 obtain ⟨c0,c1,c2⟩:=cells3 f_m
 have HH:Hid _:=And.intro E0 f_m
 clear E0 f_m hM
 go_enter Tryz.func61,Tryz.ntmps61
 go_wp2_with fail
 generalize w.alloc (.cells #[rV m.x,rV m.y,rV m.w] 88)=w0 at *
 clear c0 c1 c2
 obtain ⟨E0,f_m⟩:=HH.out
 clear HH
 refine (madd_any mb _ s i ⟨7,m.w,1,k⟩ w0 E0.2 (by have:=hroom.1;omega) ⟨by show 7 < 256;omega,h8.2.2,by show 1 < 256;omega,by show k < 256;omega⟩).mono ?_
 rintro e w1 ⟨rfl,k1,m1⟩
 have HE:Hid _:=MkEnd.trans E0 (show MkEnd w0 w1 mb _ s i from ⟨k1,m1⟩)
 clear k1 m1 E0 f_m
 go_wp2_with fail
 exact bodyPost_end (v:=.tuple #[]) (by simp [results,Tryz.results61]) rfl ⟨rfl,HE.out⟩
set_option maxHeartbeats 800000 in
theorem mgrd_centre (mb:Nat) (L:List Stp) (s i:Nat) (m:Tr) (k:Nat) (w:World) (hM:Mkr w mb L s i) (hroom:Room L s 4) (h8:S8 m) (hk:k < 16) :
  Calls Tryz.prog 61 #[mP mb,S [99,101,110,116,114,101],trV m,.int .i64 k] w fun e w'=>e=.returned (.tuple #[])∧MkEnd w w' mb (L++[⟨7,m.w,2,k⟩]) (s+0) i:=by
 have r2:=hroom.2
 have wk:IntKind.u8.wrap (k:Int)=(k:Int):=by simp [IntKind.wrap,IntKind.signed,IntKind.bits];omega
 have E0:MkEnd w (w.alloc (trO m)) mb L s i:=MkEnd.al (show MkEnd w w mb L s i from ⟨Kp.refl mb w,hM⟩) _
 have f_m:AtT (w.alloc (trO m)) w.heap.size m:=heap_alloc_new w _
 obtain ⟨c0,c1,c2⟩:=cells3 f_m
 have HH:Hid _:=And.intro E0 f_m
 clear E0 f_m hM
 go_enter Tryz.func61,Tryz.ntmps61
 go_wp2_with fail
 generalize w.alloc (.cells #[rV m.x,rV m.y,rV m.w] 88)=w0 at *
 clear c0 c1 c2
 obtain ⟨E0,f_m⟩:=HH.out
 clear HH
 refine (madd_any mb _ s i ⟨7,m.w,2,k⟩ w0 E0.2 (by have:=hroom.1;omega) ⟨by show 7 < 256;omega,h8.2.2,by show 2 < 256;omega,by show k < 256;omega⟩).mono ?_
 rintro e w1 ⟨rfl,k1,m1⟩
 have HE:Hid _:=MkEnd.trans E0 (show MkEnd w0 w1 mb _ s i from ⟨k1,m1⟩)
 clear k1 m1 E0 f_m
 go_wp2_with fail
 exact bodyPost_end (v:=.tuple #[]) (by simp [results,Tryz.results61]) rfl ⟨rfl,HE.out⟩
set_option maxHeartbeats 800000 in
theorem mgrd_0 (wd:List UInt8) (hw:wd=[112,116]∨wd=[109,105,100]∨wd=[112,97,114]∨wd=[112,101,114,112]∨wd=[102,111,111,116]∨wd=[109,105,114,114,111,114]) (mb:Nat) (L:List Stp) (s i:Nat) (m:Tr) (k:Nat) (w:World) (hM:Mkr w mb L s i) (_hroom:Room L s 4) (_h8:S8 m) (_hk:k < 16) :
  Calls Tryz.prog 61 #[mP mb,S wd,trV m,.int .i64 k] w fun e w'=>e=.returned (.tuple #[])∧MkEnd w w' mb (L++[]) (s+0) i:=by
 rcases hw with rfl | rfl | rfl | rfl | rfl | rfl
 all_goals
  have E0:MkEnd w (w.alloc (trO m)) mb L s i:=MkEnd.al (show MkEnd w w mb L s i from ⟨Kp.refl mb w,hM⟩) _
  have f_m:AtT (w.alloc (trO m)) w.heap.size m:=heap_alloc_new w _
  obtain ⟨c0,c1,c2⟩:=cells3 f_m
  have HH:Hid _:=And.intro E0 f_m
  clear E0 f_m hM
  go_enter Tryz.func61,Tryz.ntmps61
  go_wp2_with fail
  generalize w.alloc (.cells #[rV m.x,rV m.y,rV m.w] 88)=w0 at *
  clear c0 c1 c2
  obtain ⟨E0,f_m⟩:=HH.out
  clear HH
  exact bodyPost_end (v:=.tuple #[]) (by simp [results,Tryz.results61]) rfl ⟨rfl,by rw [List.append_nil];exact E0⟩
theorem mgrd_pt (mb:Nat) (L:List Stp) (s i:Nat) (m:Tr) (k:Nat) (w:World) (hM:Mkr w mb L s i) (_hroom:Room L s 4) (_h8:S8 m) (_hk:k < 16):Calls Tryz.prog 61 #[mP mb,S [112,116],trV m,.int .i64 k] w fun e w'=>e=.returned (.tuple #[])∧MkEnd w w' mb (L++[]) (s+0) i:=mgrd_0 _ (.inl rfl) mb L s i m k w hM _hroom _h8 _hk
theorem mgrd_mid (mb:Nat) (L:List Stp) (s i:Nat) (m:Tr) (k:Nat) (w:World) (hM:Mkr w mb L s i) (_hroom:Room L s 4) (_h8:S8 m) (_hk:k < 16):Calls Tryz.prog 61 #[mP mb,S [109,105,100],trV m,.int .i64 k] w fun e w'=>e=.returned (.tuple #[])∧MkEnd w w' mb (L++[]) (s+0) i:=mgrd_0 _ (.inr (.inl rfl)) mb L s i m k w hM _hroom _h8 _hk
theorem mgrd_par (mb:Nat) (L:List Stp) (s i:Nat) (m:Tr) (k:Nat) (w:World) (hM:Mkr w mb L s i) (_hroom:Room L s 4) (_h8:S8 m) (_hk:k < 16):Calls Tryz.prog 61 #[mP mb,S [112,97,114],trV m,.int .i64 k] w fun e w'=>e=.returned (.tuple #[])∧MkEnd w w' mb (L++[]) (s+0) i:=mgrd_0 _ (.inr (.inr (.inl rfl))) mb L s i m k w hM _hroom _h8 _hk
theorem mgrd_perp (mb:Nat) (L:List Stp) (s i:Nat) (m:Tr) (k:Nat) (w:World) (hM:Mkr w mb L s i) (_hroom:Room L s 4) (_h8:S8 m) (_hk:k < 16):Calls Tryz.prog 61 #[mP mb,S [112,101,114,112],trV m,.int .i64 k] w fun e w'=>e=.returned (.tuple #[])∧MkEnd w w' mb (L++[]) (s+0) i:=mgrd_0 _ (.inr (.inr (.inr (.inl rfl)))) mb L s i m k w hM _hroom _h8 _hk
theorem mgrd_foot (mb:Nat) (L:List Stp) (s i:Nat) (m:Tr) (k:Nat) (w:World) (hM:Mkr w mb L s i) (_hroom:Room L s 4) (_h8:S8 m) (_hk:k < 16):Calls Tryz.prog 61 #[mP mb,S [102,111,111,116],trV m,.int .i64 k] w fun e w'=>e=.returned (.tuple #[])∧MkEnd w w' mb (L++[]) (s+0) i:=mgrd_0 _ (.inr (.inr (.inr (.inr (.inl rfl))))) mb L s i m k w hM _hroom _h8 _hk
theorem mgrd_mirror (mb:Nat) (L:List Stp) (s i:Nat) (m:Tr) (k:Nat) (w:World) (hM:Mkr w mb L s i) (_hroom:Room L s 4) (_h8:S8 m) (_hk:k < 16):Calls Tryz.prog 61 #[mP mb,S [109,105,114,114,111,114],trV m,.int .i64 k] w fun e w'=>e=.returned (.tuple #[])∧MkEnd w w' mb (L++[]) (s+0) i:=mgrd_0 _ (.inr (.inr (.inr (.inr (.inr (rfl)))))) mb L s i m k w hM _hroom _h8 _hk
set_option maxHeartbeats 400000 in
theorem home_any (k:Nat) (hk:k < 16) (w:World):Calls Tryz.prog 93 #[.int .i64 k] w fun e w'=>e=.returned (trV (hm k))∧Mod (fun _=>False) w w':=by
 obtain ⟨m,hm0⟩:∃ m:Nat,m=3*k:=⟨_,rfl⟩
 obtain ⟨m1,hm1⟩:∃ m1:Nat,m1=m+1:=⟨_,rfl⟩
 obtain ⟨m2,hm2⟩:∃ m2:Nat,m2=m+2:=⟨_,rfl⟩
 have w0:IntKind.i64.wrap (3*(k:Int))=(m:Int):=by simp [IntKind.wrap,IntKind.signed,IntKind.bits];omega
 have w1:IntKind.u8.wrap (m:Int)=(m:Int):=by simp [IntKind.wrap,IntKind.signed,IntKind.bits];omega
 have w2:IntKind.u8.wrap ((m:Int)+1)=(m1:Int):=by simp [IntKind.wrap,IntKind.signed,IntKind.bits];omega
 have w3:IntKind.u8.wrap ((m:Int)+2)=(m2:Int):=by simp [IntKind.wrap,IntKind.signed,IntKind.bits];omega
 have HR:Hid ((.agg #[rV m,rV m1,rV m2]:Value)=trV (hm k)):=by show _=_;rw [hm2,hm1,hm0];rfl
 clear hm0 hm1 hm2 hk
 go_enter Tryz.func93,Tryz.ntmps93
 go_wp2_with fail
 exact bodyPost_ret (v:=.agg #[rV m,rV m1,rV m2]) (by simp [results,Tryz.results93,go_sem]) rfl ⟨by rw [HR.out],(Mod.refl _ w).alloc _⟩
set_option maxHeartbeats 800000 in
theorem mfac_P (wd:List UInt8) (hw:wd=[112,116]∨wd=[109,105,100]∨wd=[109,101,101,116]∨wd=[102,111,111,116]∨wd=[109,105,114,114,111,114]∨wd=[99,101,110,116,114,101]) (mb:Nat) (L:List Stp) (s i:Nat) (m:Tr) (w:World) (hM:Mkr w mb L s i) (hroom:Room L s 4) (h8:S8 m) :
  Calls Tryz.prog 107 #[mP mb,S wd,trV m] w fun e w'=>e=.returned (rV s)∧MkEnd w w' mb (L++[⟨5,s,m.w,0⟩]) (s+1) i:=by
 rcases hw with rfl | rfl | rfl | rfl | rfl | rfl
 all_goals
  have E0:MkEnd w (w.alloc (trO m)) mb L s i:=MkEnd.al (show MkEnd w w mb L s i from ⟨Kp.refl mb w,hM⟩) _
  have f_m:AtT (w.alloc (trO m)) w.heap.size m:=heap_alloc_new w _
  obtain ⟨c0,c1,c2⟩:=cells3 f_m
  have HH:Hid _:=E0
  clear E0 f_m hM
  go_enter Tryz.func107,Tryz.ntmps107
  go_wp2_with (go_at_call 145;go_in)
  generalize w.alloc (.cells #[rV m.x,rV m.y,rV m.w] 88)=w0 at *
  clear c0 c1 c2
  have E0:=HH.out
  clear HH
  refine (msgn_any mb _ s i m.w w0 E0.2 (hroom.mono (by omega)) h8.2.2).mono ?_
  rintro e w1 ⟨rfl,k1⟩
  have HE:Hid _:=MkEnd.trans E0 k1
  clear k1 E0
  go_wp2_with fail
  go_ret
  exact ⟨rfl,HE.out⟩
theorem mfac_pt (mb:Nat) (L:List Stp) (s i:Nat) (m:Tr) (w:World) (hM:Mkr w mb L s i) (hroom:Room L s 4) (h8:S8 m):Calls Tryz.prog 107 #[mP mb,S [112,116],trV m] w fun e w'=>e=.returned (rV s)∧MkEnd w w' mb (L++[⟨5,s,m.w,0⟩]) (s+1) i:=mfac_P _ (.inl rfl) mb L s i m w hM hroom h8
theorem mfac_mid (mb:Nat) (L:List Stp) (s i:Nat) (m:Tr) (w:World) (hM:Mkr w mb L s i) (hroom:Room L s 4) (h8:S8 m):Calls Tryz.prog 107 #[mP mb,S [109,105,100],trV m] w fun e w'=>e=.returned (rV s)∧MkEnd w w' mb (L++[⟨5,s,m.w,0⟩]) (s+1) i:=mfac_P _ (.inr (.inl rfl)) mb L s i m w hM hroom h8
theorem mfac_meet (mb:Nat) (L:List Stp) (s i:Nat) (m:Tr) (w:World) (hM:Mkr w mb L s i) (hroom:Room L s 4) (h8:S8 m):Calls Tryz.prog 107 #[mP mb,S [109,101,101,116],trV m] w fun e w'=>e=.returned (rV s)∧MkEnd w w' mb (L++[⟨5,s,m.w,0⟩]) (s+1) i:=mfac_P _ (.inr (.inr (.inl rfl))) mb L s i m w hM hroom h8
theorem mfac_foot (mb:Nat) (L:List Stp) (s i:Nat) (m:Tr) (w:World) (hM:Mkr w mb L s i) (hroom:Room L s 4) (h8:S8 m):Calls Tryz.prog 107 #[mP mb,S [102,111,111,116],trV m] w fun e w'=>e=.returned (rV s)∧MkEnd w w' mb (L++[⟨5,s,m.w,0⟩]) (s+1) i:=mfac_P _ (.inr (.inr (.inr (.inl rfl)))) mb L s i m w hM hroom h8
theorem mfac_mirror (mb:Nat) (L:List Stp) (s i:Nat) (m:Tr) (w:World) (hM:Mkr w mb L s i) (hroom:Room L s 4) (h8:S8 m):Calls Tryz.prog 107 #[mP mb,S [109,105,114,114,111,114],trV m] w fun e w'=>e=.returned (rV s)∧MkEnd w w' mb (L++[⟨5,s,m.w,0⟩]) (s+1) i:=mfac_P _ (.inr (.inr (.inr (.inr (.inl rfl))))) mb L s i m w hM hroom h8
theorem mfac_centre (mb:Nat) (L:List Stp) (s i:Nat) (m:Tr) (w:World) (hM:Mkr w mb L s i) (hroom:Room L s 4) (h8:S8 m):Calls Tryz.prog 107 #[mP mb,S [99,101,110,116,114,101],trV m] w fun e w'=>e=.returned (rV s)∧MkEnd w w' mb (L++[⟨5,s,m.w,0⟩]) (s+1) i:=mfac_P _ (.inr (.inr (.inr (.inr (.inr (rfl)))))) mb L s i m w hM hroom h8
set_option maxHeartbeats 800000 in
theorem mfac_L (wd:List UInt8) (hw:wd=[108,105,110,101]∨wd=[112,97,114]∨wd=[112,101,114,112]) (mb:Nat) (L:List Stp) (s i:Nat) (m:Tr) (w:World) (hM:Mkr w mb L s i) (hroom:Room L s 4) (_h8:S8 m) :
  Calls Tryz.prog 107 #[mP mb,S wd,trV m] w fun e w'=>e=.returned (rV s)∧MkEnd w w' mb (L++[⟨1,s,1,0⟩]) (s+1) i:=by
 rcases hw with rfl | rfl | rfl
 all_goals
  have E0:MkEnd w (w.alloc (trO m)) mb L s i:=MkEnd.al (show MkEnd w w mb L s i from ⟨Kp.refl mb w,hM⟩) _
  have f_m:AtT (w.alloc (trO m)) w.heap.size m:=heap_alloc_new w _
  obtain ⟨c0,c1,c2⟩:=cells3 f_m
  have HH:Hid _:=E0
  clear E0 f_m hM
  go_enter Tryz.func107,Tryz.ntmps107
  go_wp2_with (go_at_call 145;go_in)
  generalize w.alloc (.cells #[rV m.x,rV m.y,rV m.w] 88)=w0 at *
  clear c0 c1 c2
  have E0:=HH.out
  clear HH
  refine (mcon_any mb _ s i 1 w0 E0.2 (hroom.mono (by omega)) (by omega)).mono ?_
  rintro e w1 ⟨rfl,k1⟩
  have HE:Hid _:=MkEnd.trans E0 k1
  clear k1 E0
  go_wp2_with fail
  go_ret
  exact ⟨rfl,HE.out⟩
theorem mfac_line (mb:Nat) (L:List Stp) (s i:Nat) (m:Tr) (w:World) (hM:Mkr w mb L s i) (hroom:Room L s 4) (_h8:S8 m):Calls Tryz.prog 107 #[mP mb,S [108,105,110,101],trV m] w fun e w'=>e=.returned (rV s)∧MkEnd w w' mb (L++[⟨1,s,1,0⟩]) (s+1) i:=mfac_L _ (.inl rfl) mb L s i m w hM hroom _h8
theorem mfac_par (mb:Nat) (L:List Stp) (s i:Nat) (m:Tr) (w:World) (hM:Mkr w mb L s i) (hroom:Room L s 4) (_h8:S8 m):Calls Tryz.prog 107 #[mP mb,S [112,97,114],trV m] w fun e w'=>e=.returned (rV s)∧MkEnd w w' mb (L++[⟨1,s,1,0⟩]) (s+1) i:=mfac_L _ (.inr (.inl rfl)) mb L s i m w hM hroom _h8
theorem mfac_perp (mb:Nat) (L:List Stp) (s i:Nat) (m:Tr) (w:World) (hM:Mkr w mb L s i) (hroom:Room L s 4) (_h8:S8 m):Calls Tryz.prog 107 #[mP mb,S [112,101,114,112],trV m] w fun e w'=>e=.returned (rV s)∧MkEnd w w' mb (L++[⟨1,s,1,0⟩]) (s+1) i:=mfac_L _ (.inr (.inr (rfl))) mb L s i m w hM hroom _h8
set_option maxHeartbeats 1600000 in
theorem mkeep_w (wd:List UInt8) (t:Stp) (mb:Nat) (L K:List Stp) (s i:Nat) (m:Tr) (k:Nat) (w:World) (hM:Mkr w mb L s i) (hroom:Room L s 4) (h8:S8 m) (hk:k < 16) (hf:∀ W,Mkr W mb L s i→Calls Tryz.prog 107 #[mP mb,S wd,trV m] W fun e w'=>e=.returned (rV s)∧MkEnd W w' mb (L++[t]) (s+1) i) (hK:K=[t,⟨4,(hm k).x,m.x,s⟩,⟨4,(hm k).y,m.y,s⟩,⟨4,(hm k).w,m.w,s⟩]) :
  Calls Tryz.prog 62 #[mP mb,S wd,trV m,.int .i64 k] w fun e w'=>e=.returned (.tuple #[])∧MkEnd w w' mb (L++K) (s+1) i:=by
 have hL:L++K=L++[t]++[⟨4,(hm k).x,m.x,s⟩]++[⟨4,(hm k).y,m.y,s⟩]++[⟨4,(hm k).w,m.w,s⟩]:=by simp [hK]
 have HL:Hid _:=hL
 clear hL hK
 have r1:=hroom.1
 have r2:=hroom.2
 have E0:MkEnd w (w.alloc (trO m)) mb L s i:=MkEnd.al (show MkEnd w w mb L s i from ⟨Kp.refl mb w,hM⟩) _
 have f_m:AtT (w.alloc (trO m)) w.heap.size m:=heap_alloc_new w _
 have HH:Hid _:=And.intro E0 f_m
 clear E0 f_m hM
 go_enter Tryz.func62,Tryz.ntmps62
 go_wp2_with fail
 generalize w.alloc (.cells #[rV m.x,rV m.y,rV m.w] 88)=w0 at *
 obtain ⟨E0,f_m⟩:=HH.out
 clear HH
 refine (home_any k hk w0).mono ?_
 rintro e w1 ⟨rfl,k1⟩
 have E1:=MkEnd.al (E0.md k1) (.cells #[rV (hm k).x,rV (hm k).y,rV (hm k).w] 88)
 have f_h:AtT (w1.alloc (.cells #[rV (hm k).x,rV (hm k).y,rV (hm k).w] 88)) w1.heap.size (hm k):=heap_alloc_new w1 _
 replace f_m:=At3.al (At3.md f_m k1) (.cells #[rV (hm k).x,rV (hm k).y,rV (hm k).w] 88)
 obtain ⟨q0,q1,q2⟩:=cells3 f_m
 have HH:Hid _:=And.intro E1 (And.intro f_m f_h)
 clear k1 E0 E1 f_m f_h
 go_wp2_with fail
 generalize w1.alloc (.cells #[rV (hm k).x,rV (hm k).y,rV (hm k).w] 88)=w1b at *
 clear q0 q1 q2
 obtain ⟨E1,f_m,f_h⟩:=HH.out
 clear HH
 refine (hf _ E1.2).mono ?_
 rintro e w2 ⟨rfl,k2⟩
 have E2:MkEnd w w2 mb (L++[t]) (s+1) i:=MkEnd.trans E1 k2
 replace f_m:=At3.kp f_m k2.1
 replace f_h:=At3.kp f_h k2.1
 clear k2 E1
 obtain ⟨q0,q1,q2⟩:=cells3 f_m
 obtain ⟨p0,p1,p2⟩:=cells3 f_h
 have HH:Hid _:=And.intro E2 (And.intro f_m f_h)
 clear E2 f_m f_h
 go_wp2_with fail
 clear q0 q1 q2 p0 p1 p2
 obtain ⟨E2,f_m,f_h⟩:=HH.out
 clear HH
 refine (madd_any mb _ (s+1) i ⟨4,(hm k).x,m.x,s⟩ w2 E2.2 (by simp;omega) ⟨by show 4 < 256;omega,by show 3*k < 256;omega,h8.1,by show s < 256;omega⟩).mono ?_
 rintro e w3 ⟨rfl,k3,m3⟩
 have E3:MkEnd w w3 mb (L++[t]++[⟨4,(hm k).x,m.x,s⟩]) (s+1) i:=MkEnd.trans E2 (show MkEnd w2 w3 mb _ (s+1) i from ⟨k3,m3⟩)
 replace f_m:=At3.kp f_m k3
 replace f_h:=At3.kp f_h k3
 clear k3 m3 E2
 obtain ⟨q0,q1,q2⟩:=cells3 f_m
 obtain ⟨p0,p1,p2⟩:=cells3 f_h
 have HH:Hid _:=And.intro E3 (And.intro f_m f_h)
 clear E3 f_m f_h
 go_wp2_with fail
 clear q0 q1 q2 p0 p1 p2
 obtain ⟨E3,f_m,f_h⟩:=HH.out
 clear HH
 refine (madd_any mb _ (s+1) i ⟨4,(hm k).y,m.y,s⟩ w3 E3.2 (by simp;omega) ⟨by show 4 < 256;omega,by show 3*k+1 < 256;omega,h8.2.1,by show s < 256;omega⟩).mono ?_
 rintro e w4 ⟨rfl,k4,m4⟩
 have E4:MkEnd w w4 mb (L++[t]++[⟨4,(hm k).x,m.x,s⟩]++[⟨4,(hm k).y,m.y,s⟩]) (s+1) i:=MkEnd.trans E3 (show MkEnd w3 w4 mb _ (s+1) i from ⟨k4,m4⟩)
 replace f_m:=At3.kp f_m k4
 replace f_h:=At3.kp f_h k4
 clear k4 m4 E3
 obtain ⟨q0,q1,q2⟩:=cells3 f_m
 obtain ⟨p0,p1,p2⟩:=cells3 f_h
 have HH:Hid _:=And.intro E4 (And.intro f_m f_h)
 clear E4 f_m f_h
 go_wp2_with fail
 clear q0 q1 q2 p0 p1 p2
 obtain ⟨E4,f_m,f_h⟩:=HH.out
 clear HH
 refine (madd_any mb _ (s+1) i ⟨4,(hm k).w,m.w,s⟩ w4 E4.2 (by simp;omega) ⟨by show 4 < 256;omega,by show 3*k+2 < 256;omega,h8.2.2,by show s < 256;omega⟩).mono ?_
 rintro e w5 ⟨rfl,k5,m5⟩
 have E5:MkEnd w w5 mb (L++[t]++[⟨4,(hm k).x,m.x,s⟩]++[⟨4,(hm k).y,m.y,s⟩]++[⟨4,(hm k).w,m.w,s⟩]) (s+1) i:=MkEnd.trans E4 (show MkEnd w4 w5 mb _ (s+1) i from ⟨k5,m5⟩)
 replace f_m:=At3.kp f_m k5
 replace f_h:=At3.kp f_h k5
 clear k5 m5 E4
 have HE:Hid _:=E5
 clear E5 f_m f_h
 go_wp2_with fail
 exact bodyPost_end (v:=.tuple #[]) (by simp [results,Tryz.results62]) rfl ⟨rfl,by rw [HL.out];exact HE.out⟩
theorem mkeep_pt (mb:Nat) (L:List Stp) (s i:Nat) (m:Tr) (k:Nat) (w:World) (hM:Mkr w mb L s i) (hroom:Room L s 4) (h8:S8 m) (hk:k < 16):Calls Tryz.prog 62 #[mP mb,S [112,116],trV m,.int .i64 k] w fun e w'=>e=.returned (.tuple #[])∧MkEnd w w' mb (L++kpP s m k) (s+1) i:=mkeep_w _ _ mb L _ s i m k w hM hroom h8 hk (fun W h=>mfac_pt mb L s i m W h hroom h8) rfl
theorem mkeep_mid (mb:Nat) (L:List Stp) (s i:Nat) (m:Tr) (k:Nat) (w:World) (hM:Mkr w mb L s i) (hroom:Room L s 4) (h8:S8 m) (hk:k < 16):Calls Tryz.prog 62 #[mP mb,S [109,105,100],trV m,.int .i64 k] w fun e w'=>e=.returned (.tuple #[])∧MkEnd w w' mb (L++kpP s m k) (s+1) i:=mkeep_w _ _ mb L _ s i m k w hM hroom h8 hk (fun W h=>mfac_mid mb L s i m W h hroom h8) rfl
theorem mkeep_meet (mb:Nat) (L:List Stp) (s i:Nat) (m:Tr) (k:Nat) (w:World) (hM:Mkr w mb L s i) (hroom:Room L s 4) (h8:S8 m) (hk:k < 16):Calls Tryz.prog 62 #[mP mb,S [109,101,101,116],trV m,.int .i64 k] w fun e w'=>e=.returned (.tuple #[])∧MkEnd w w' mb (L++kpP s m k) (s+1) i:=mkeep_w _ _ mb L _ s i m k w hM hroom h8 hk (fun W h=>mfac_meet mb L s i m W h hroom h8) rfl
theorem mkeep_foot (mb:Nat) (L:List Stp) (s i:Nat) (m:Tr) (k:Nat) (w:World) (hM:Mkr w mb L s i) (hroom:Room L s 4) (h8:S8 m) (hk:k < 16):Calls Tryz.prog 62 #[mP mb,S [102,111,111,116],trV m,.int .i64 k] w fun e w'=>e=.returned (.tuple #[])∧MkEnd w w' mb (L++kpP s m k) (s+1) i:=mkeep_w _ _ mb L _ s i m k w hM hroom h8 hk (fun W h=>mfac_foot mb L s i m W h hroom h8) rfl
theorem mkeep_mirror (mb:Nat) (L:List Stp) (s i:Nat) (m:Tr) (k:Nat) (w:World) (hM:Mkr w mb L s i) (hroom:Room L s 4) (h8:S8 m) (hk:k < 16):Calls Tryz.prog 62 #[mP mb,S [109,105,114,114,111,114],trV m,.int .i64 k] w fun e w'=>e=.returned (.tuple #[])∧MkEnd w w' mb (L++kpP s m k) (s+1) i:=mkeep_w _ _ mb L _ s i m k w hM hroom h8 hk (fun W h=>mfac_mirror mb L s i m W h hroom h8) rfl
theorem mkeep_centre (mb:Nat) (L:List Stp) (s i:Nat) (m:Tr) (k:Nat) (w:World) (hM:Mkr w mb L s i) (hroom:Room L s 4) (h8:S8 m) (hk:k < 16):Calls Tryz.prog 62 #[mP mb,S [99,101,110,116,114,101],trV m,.int .i64 k] w fun e w'=>e=.returned (.tuple #[])∧MkEnd w w' mb (L++kpP s m k) (s+1) i:=mkeep_w _ _ mb L _ s i m k w hM hroom h8 hk (fun W h=>mfac_centre mb L s i m W h hroom h8) rfl
theorem mkeep_line (mb:Nat) (L:List Stp) (s i:Nat) (m:Tr) (k:Nat) (w:World) (hM:Mkr w mb L s i) (hroom:Room L s 4) (h8:S8 m) (hk:k < 16):Calls Tryz.prog 62 #[mP mb,S [108,105,110,101],trV m,.int .i64 k] w fun e w'=>e=.returned (.tuple #[])∧MkEnd w w' mb (L++kpL s m k) (s+1) i:=mkeep_w _ _ mb L _ s i m k w hM hroom h8 hk (fun W h=>mfac_line mb L s i m W h hroom h8) rfl
theorem mkeep_par (mb:Nat) (L:List Stp) (s i:Nat) (m:Tr) (k:Nat) (w:World) (hM:Mkr w mb L s i) (hroom:Room L s 4) (h8:S8 m) (hk:k < 16):Calls Tryz.prog 62 #[mP mb,S [112,97,114],trV m,.int .i64 k] w fun e w'=>e=.returned (.tuple #[])∧MkEnd w w' mb (L++kpL s m k) (s+1) i:=mkeep_w _ _ mb L _ s i m k w hM hroom h8 hk (fun W h=>mfac_par mb L s i m W h hroom h8) rfl
theorem mkeep_perp (mb:Nat) (L:List Stp) (s i:Nat) (m:Tr) (k:Nat) (w:World) (hM:Mkr w mb L s i) (hroom:Room L s 4) (h8:S8 m) (hk:k < 16):Calls Tryz.prog 62 #[mP mb,S [112,101,114,112],trV m,.int .i64 k] w fun e w'=>e=.returned (.tuple #[])∧MkEnd w w' mb (L++kpL s m k) (s+1) i:=mkeep_w _ _ mb L _ s i m k w hM hroom h8 hk (fun W h=>mfac_perp mb L s i m W h hroom h8) rfl
abbrev thC (t:Th):Array Value:=#[rV t.a.x,rV t.a.y,rV t.a.w,rV t.b.x,rV t.b.y,rV t.b.w,rV t.c.x,rV t.c.y,rV t.c.w,rV t.d.x,rV t.d.y,rV t.d.w]
theorem Tryz.infoTh:(Tryz.prog.info? 90).map (·.size)=some 12:=by kernel_rfl
theorem th_one (t:Th):(thC t).all (·.oneCell')=true:=by simp [thC,Value.oneCell']
def tz:Tr:=⟨0,0,0⟩
def thz:Th:=⟨tz,tz,tz,tz⟩
def thK (l:List St) (x:St) (k:Nat):Th:=⟨if 0 < k then thJ l x 0 else tz,if 1 < k then thJ l x 1 else tz,if 2 < k then thJ l x 2 else tz,if 3 < k then thJ l x 3 else tz⟩
theorem thK_all (l:List St) (x:St):thK l x x.args.length=thO l x:=by
 have key:∀ j,(if j < x.args.length then thJ l x j else tz)=thJ l x j:=fun j=>by
  unfold thJ tz
  split <;> rfl
 unfold thK thO
 rw [key,key,key,key]
theorem fzH {w:World} {k:Nat} {t:Th} (h:AtH w k t) (i:Nat):w.frozen? ⟨k,i,none⟩=false:=by unfold AtH at h;simp [World.frozen?,h]
def set3o (w:World) (b o:Nat) (x y z:Value):World:=((w.setCell ⟨b,o,none⟩ x).setCell ⟨b,o+1,none⟩ y).setCell ⟨b,o+2,none⟩ z
theorem set3o_own (w:World) (b o:Nat) (x y z:Value):Mod (fun q=>q=b) w (set3o w b o x y z):=by
 have h0:Mod (fun q=>q=b) w (w.setCell ⟨b,o,none⟩ x):=(Mod.refl _ w).setCell ⟨b,o,none⟩ x (fun _=>rfl)
 have h1:=h0.setCell ⟨b,o+1,none⟩ y (fun _=>rfl)
 exact h1.setCell ⟨b,o+2,none⟩ z (fun _=>rfl)
theorem set3o_mod {a w:World} (h:Mod (fun _=>False) a w) (b o:Nat) (x y z:Value) (hb:a.heap.size≤b):Mod (fun _=>False) a (set3o w b o x y z):=by
 have:=(h.mono (q:=fun q=>q=b) (fun _ _ f=>f.elim)).trans (set3o_own w b o x y z)
 exact this.mono (fun k hk e=>by omega)
theorem cellsH {w:World} {b:Nat} {C:Array Value} {ty:TypeId} (i:Nat) (v:Value) (h:w.heap[b]?=some (.cells C ty (0,0))):(w.setCell ⟨b,i,none⟩ v).heap[b]?=some (.cells (C.setIfInBounds i v) ty (0,0)):=by
 simp [World.setCell,Array.getElem?_modify,h]
theorem AtH.set0 {w:World} {b:Nat} {t:Th} (h:AtH w b t) (u:Tr):AtH (set3o w b 0 (rV u.x) (rV u.y) (rV u.w)) b ⟨u,t.b,t.c,t.d⟩:=cellsH 2 _ (cellsH 1 _ (cellsH 0 _ h))
theorem AtH.set1 {w:World} {b:Nat} {t:Th} (h:AtH w b t) (u:Tr):AtH (set3o w b 3 (rV u.x) (rV u.y) (rV u.w)) b ⟨t.a,u,t.c,t.d⟩:=cellsH 5 _ (cellsH 4 _ (cellsH 3 _ h))
theorem AtH.set2 {w:World} {b:Nat} {t:Th} (h:AtH w b t) (u:Tr):AtH (set3o w b 6 (rV u.x) (rV u.y) (rV u.w)) b ⟨t.a,t.b,u,t.d⟩:=cellsH 8 _ (cellsH 7 _ (cellsH 6 _ h))
theorem AtH.set3 {w:World} {b:Nat} {t:Th} (h:AtH w b t) (u:Tr):AtH (set3o w b 9 (rV u.x) (rV u.y) (rV u.w)) b ⟨t.a,t.b,t.c,u⟩:=cellsH 11 _ (cellsH 10 _ (cellsH 9 _ h))
set_option maxHeartbeats 1600000 in
set_option maxRecDepth 100000 in
theorem argsOf_any (v:Value) (q:List It) (base:Nat) (x:St) (av:Value) (wt:Int) (w:World) (hq:q.length≤16) (hal:x.args.length≤4) (hL:Lst w base v q) (hA:w.ownsRow base 5 1 av x.args.length (bvs x.args))
  (hg:∀ i (hi:i < x.args.length),∃ k,k < 16∧gvI (q.map It.x) x.args[i].toNat=((k:Nat):Int)) :
  Calls Tryz.prog 56 #[v,ag4 x.name x.word av wt] w fun e w'=>e=.returned (thV (thO (q.map It.x) x))∧Mod (fun _=>False) w w':=by
 have hav:=owns_one hA
 obtain ⟨aa,acap,rfl,-⟩:=owns_form hA
 have HG:Hid (∀ i (hi:i < x.args.length),∃ k,k < 16∧gvI (q.map It.x) x.args[i].toNat=((k:Nat):Int)):=hg
 have HK:Hid (thK (q.map It.x) x x.args.length=thO (q.map It.x) x):=thK_all _ _
 clear hg
 have hm0:Mod (fun _=>False) w (((w.alloc (.cells #[.int .u8 x.name,S x.word,.slice aa x.args.length acap,.int .i64 wt] 83)).alloc (.cells #[.int .u8 0,.int .u8 0,.int .u8 0,.int .u8 0,.int .u8 0,.int .u8 0,.int .u8 0,.int .u8 0,.int .u8 0,.int .u8 0,.int .u8 0,.int .u8 0] 90)).alloc (.cells #[.int .u8 0,.int .u8 0,.int .u8 0,.int .u8 0,.int .u8 0,.int .u8 0,.int .u8 0,.int .u8 0,.int .u8 0,.int .u8 0,.int .u8 0,.int .u8 0] 90)):=(((Mod.refl _ w).alloc _).alloc _).alloc _
 have f_r:AtH (((w.alloc (.cells #[.int .u8 x.name,S x.word,.slice aa x.args.length acap,.int .i64 wt] 83)).alloc (.cells #[.int .u8 0,.int .u8 0,.int .u8 0,.int .u8 0,.int .u8 0,.int .u8 0,.int .u8 0,.int .u8 0,.int .u8 0,.int .u8 0,.int .u8 0,.int .u8 0] 90)).alloc (.cells #[.int .u8 0,.int .u8 0,.int .u8 0,.int .u8 0,.int .u8 0,.int .u8 0,.int .u8 0,.int .u8 0,.int .u8 0,.int .u8 0,.int .u8 0,.int .u8 0] 90)) (w.heap.size+1) thz:=by
  have h:=heap_alloc_new (w.alloc (.cells #[.int .u8 x.name,S x.word,.slice aa x.args.length acap,.int .i64 wt] 83)) (.cells #[.int .u8 0,.int .u8 0,.int .u8 0,.int .u8 0,.int .u8 0,.int .u8 0,.int .u8 0,.int .u8 0,.int .u8 0,.int .u8 0,.int .u8 0,.int .u8 0] 90)
  simp only [sz_al] at h
  exact AtH.al (t:=thz) h _
 have f_t:AtH (((w.alloc (.cells #[.int .u8 x.name,S x.word,.slice aa x.args.length acap,.int .i64 wt] 83)).alloc (.cells #[.int .u8 0,.int .u8 0,.int .u8 0,.int .u8 0,.int .u8 0,.int .u8 0,.int .u8 0,.int .u8 0,.int .u8 0,.int .u8 0,.int .u8 0,.int .u8 0] 90)).alloc (.cells #[.int .u8 0,.int .u8 0,.int .u8 0,.int .u8 0,.int .u8 0,.int .u8 0,.int .u8 0,.int .u8 0,.int .u8 0,.int .u8 0,.int .u8 0,.int .u8 0] 90)) (w.heap.size+1+1) thz:=by
  have h:=heap_alloc_new ((w.alloc (.cells #[.int .u8 x.name,S x.word,.slice aa x.args.length acap,.int .i64 wt] 83)).alloc (.cells #[.int .u8 0,.int .u8 0,.int .u8 0,.int .u8 0,.int .u8 0,.int .u8 0,.int .u8 0,.int .u8 0,.int .u8 0,.int .u8 0,.int .u8 0,.int .u8 0] 90)) (.cells #[.int .u8 0,.int .u8 0,.int .u8 0,.int .u8 0,.int .u8 0,.int .u8 0,.int .u8 0,.int .u8 0,.int .u8 0,.int .u8 0,.int .u8 0,.int .u8 0] 90)
  simp only [sz_al] at h
  exact h
 have HH:Hid _:=And.intro hm0 (And.intro f_r f_t)
 clear hm0 f_r f_t
 go_enter Tryz.func56,Tryz.ntmps56
 go_wp2_with fail
 generalize ((w.alloc (.cells #[.int .u8 x.name,S x.word,.slice aa x.args.length acap,.int .i64 wt] 83)).alloc (.cells #[.int .u8 0,.int .u8 0,.int .u8 0,.int .u8 0,.int .u8 0,.int .u8 0,.int .u8 0,.int .u8 0,.int .u8 0,.int .u8 0,.int .u8 0,.int .u8 0] 90)).alloc (.cells #[.int .u8 0,.int .u8 0,.int .u8 0,.int .u8 0,.int .u8 0,.int .u8 0,.int .u8 0,.int .u8 0,.int .u8 0,.int .u8 0,.int .u8 0,.int .u8 0] 90)=w0 at *
 obtain ⟨hm0,f_r,f_t⟩:=HH.out
 clear HH
 go_loopw [12] (fun i wr=>∃ k:Nat,k≤x.args.length∧i=.int .i64 k∧Mod (fun _=>False) w wr∧AtH wr (w.heap.size+1) thz∧AtH wr (w.heap.size+1+1) (thK (q.map It.x) x k)) (fun i _=>x.args.length - (intOf i).toNat)
 case atStart=>exact ⟨0,by omega,rfl,hm0,f_r,f_t⟩
 case round =>
  clear hm0 f_r f_t
  obtain ⟨k,hk,rfl,hmd,f_r,f_t⟩:=hrel
  by_cases hlt:k < x.args.length
  ·have hLr:=hL.mod hmd (fun _ _ _ f=>f)
   have hAr:=owns_mod hA hmd (fun _ _ f=>f)
   obtain ⟨gb,rfl,ck⟩:=args_cell hAr rfl hlt
   obtain ⟨j,hj,hgj⟩:=HG.out k hlt
   have hj1:((j:Int) == -1)=false:=by rw [beq_eq_false_iff_ne];omega
   have hj2:((j:Int) != -1)=true:=by rw [bne_iff_ne];omega
   have hgv:=giver_any v q x.args[k].toNat base wr (by omega) hLr
   rw [hgj] at hgv
   have HJ:Hid (thJ (q.map It.x) x k=hm j):=show thJ (q.map It.x) x k=hm j by
    unfold thJ ix ag
    rw [if_pos hlt,List.getElem?_eq_getElem hlt,Option.getD_some,hgj];rfl
   clear hgj hLr hAr
   have hk4:k < 4:=by omega
   have HH:Hid _:=And.intro hmd (And.intro f_r f_t)
   clear hmd f_r f_t
   rcases (show k=0∨k=1∨k=2∨k=3 by omega) with rfl | rfl | rfl | rfl
   ·go_wp2_with fail
    refine hgv.mono ?_
    rintro e w2 ⟨rfl,rfl⟩
    clear hgv
    go_wp2_with fail
    obtain ⟨hmd,f_r,f_t⟩:=HH.out
    clear HH
    refine (home_any j hj wr).mono ?_
    rintro e w3 ⟨rfl,k3⟩
    have hm3:=hmd.trans k3
    replace f_r:=AtH.md f_r k3
    replace f_t:=AtH.md f_t k3
    obtain ⟨c0,c1,c2,c3,c4,c5,c6,c7,c8,c9,c10,c11⟩:=f_t.cs
    have z0:=fzH f_t 0
    have z1:=fzH f_t 1
    have z2:=fzH f_t 2
    have f_t4:=AtH.set0 f_t (hm j)
    have hTh:(⟨hm j,(thK (q.map It.x) x 0).b,(thK (q.map It.x) x 0).c,(thK (q.map It.x) x 0).d⟩:Th)=thK (q.map It.x) x 1:=by rw [← HJ.out];rfl
    rw [hTh] at f_t4
    have f_r4:AtH (set3o w3 (w.heap.size+1+1) 0 (rV (hm j).x) (rV (hm j).y) (rV (hm j).w)) (w.heap.size+1) thz:=(set3o_own w3 (w.heap.size+1+1) 0 (rV (hm j).x) (rV (hm j).y) (rV (hm j).w)).keep f_r (by omega)
    have hm4:=set3o_mod hm3 (w.heap.size+1+1) 0 (rV (hm j).x) (rV (hm j).y) (rV (hm j).w) (by omega)
    have HX:Hid _:=And.intro hm4 (And.intro f_r4 f_t4)
    clear hmd hm3 k3 f_r f_t hm4 f_r4 f_t4
    go_wp2_with fail
    go_roundw
    case rel=>exact ⟨1,by omega,by go_num,HX.out.1,HX.out.2.1,HX.out.2.2⟩
    case measure=>simp [intOf];omega
   ·go_wp2_with fail
    refine hgv.mono ?_
    rintro e w2 ⟨rfl,rfl⟩
    clear hgv
    go_wp2_with fail
    obtain ⟨hmd,f_r,f_t⟩:=HH.out
    clear HH
    refine (home_any j hj wr).mono ?_
    rintro e w3 ⟨rfl,k3⟩
    have hm3:=hmd.trans k3
    replace f_r:=AtH.md f_r k3
    replace f_t:=AtH.md f_t k3
    obtain ⟨c0,c1,c2,c3,c4,c5,c6,c7,c8,c9,c10,c11⟩:=f_t.cs
    have z0:=fzH f_t 3
    have z1:=fzH f_t 4
    have z2:=fzH f_t 5
    have f_t4:=AtH.set1 f_t (hm j)
    have hTh:(⟨(thK (q.map It.x) x 1).a,hm j,(thK (q.map It.x) x 1).c,(thK (q.map It.x) x 1).d⟩:Th)=thK (q.map It.x) x 2:=by rw [← HJ.out];rfl
    rw [hTh] at f_t4
    have f_r4:AtH (set3o w3 (w.heap.size+1+1) 3 (rV (hm j).x) (rV (hm j).y) (rV (hm j).w)) (w.heap.size+1) thz:=(set3o_own w3 (w.heap.size+1+1) 3 (rV (hm j).x) (rV (hm j).y) (rV (hm j).w)).keep f_r (by omega)
    have hm4:=set3o_mod hm3 (w.heap.size+1+1) 3 (rV (hm j).x) (rV (hm j).y) (rV (hm j).w) (by omega)
    have HX:Hid _:=And.intro hm4 (And.intro f_r4 f_t4)
    clear hmd hm3 k3 f_r f_t hm4 f_r4 f_t4
    go_wp2_with fail
    go_roundw
    case rel=>exact ⟨2,by omega,by go_num,HX.out.1,HX.out.2.1,HX.out.2.2⟩
    case measure=>simp [intOf];omega
   ·go_wp2_with fail
    refine hgv.mono ?_
    rintro e w2 ⟨rfl,rfl⟩
    clear hgv
    go_wp2_with fail
    obtain ⟨hmd,f_r,f_t⟩:=HH.out
    clear HH
    refine (home_any j hj wr).mono ?_
    rintro e w3 ⟨rfl,k3⟩
    have hm3:=hmd.trans k3
    replace f_r:=AtH.md f_r k3
    replace f_t:=AtH.md f_t k3
    obtain ⟨c0,c1,c2,c3,c4,c5,c6,c7,c8,c9,c10,c11⟩:=f_t.cs
    have z0:=fzH f_t 6
    have z1:=fzH f_t 7
    have z2:=fzH f_t 8
    have f_t4:=AtH.set2 f_t (hm j)
    have hTh:(⟨(thK (q.map It.x) x 2).a,(thK (q.map It.x) x 2).b,hm j,(thK (q.map It.x) x 2).d⟩:Th)=thK (q.map It.x) x 3:=by rw [← HJ.out];rfl
    rw [hTh] at f_t4
    have f_r4:AtH (set3o w3 (w.heap.size+1+1) 6 (rV (hm j).x) (rV (hm j).y) (rV (hm j).w)) (w.heap.size+1) thz:=(set3o_own w3 (w.heap.size+1+1) 6 (rV (hm j).x) (rV (hm j).y) (rV (hm j).w)).keep f_r (by omega)
    have hm4:=set3o_mod hm3 (w.heap.size+1+1) 6 (rV (hm j).x) (rV (hm j).y) (rV (hm j).w) (by omega)
    have HX:Hid _:=And.intro hm4 (And.intro f_r4 f_t4)
    clear hmd hm3 k3 f_r f_t hm4 f_r4 f_t4
    go_wp2_with fail
    go_roundw
    case rel=>exact ⟨3,by omega,by go_num,HX.out.1,HX.out.2.1,HX.out.2.2⟩
    case measure=>simp [intOf];omega
   ·go_wp2_with fail
    refine hgv.mono ?_
    rintro e w2 ⟨rfl,rfl⟩
    clear hgv
    go_wp2_with fail
    obtain ⟨hmd,f_r,f_t⟩:=HH.out
    clear HH
    refine (home_any j hj wr).mono ?_
    rintro e w3 ⟨rfl,k3⟩
    have hm3:=hmd.trans k3
    replace f_r:=AtH.md f_r k3
    replace f_t:=AtH.md f_t k3
    obtain ⟨c0,c1,c2,c3,c4,c5,c6,c7,c8,c9,c10,c11⟩:=f_t.cs
    have z0:=fzH f_t 9
    have z1:=fzH f_t 10
    have z2:=fzH f_t 11
    have f_t4:=AtH.set3 f_t (hm j)
    have hTh:(⟨(thK (q.map It.x) x 3).a,(thK (q.map It.x) x 3).b,(thK (q.map It.x) x 3).c,hm j⟩:Th)=thK (q.map It.x) x 4:=by rw [← HJ.out];rfl
    rw [hTh] at f_t4
    have f_r4:AtH (set3o w3 (w.heap.size+1+1) 9 (rV (hm j).x) (rV (hm j).y) (rV (hm j).w)) (w.heap.size+1) thz:=(set3o_own w3 (w.heap.size+1+1) 9 (rV (hm j).x) (rV (hm j).y) (rV (hm j).w)).keep f_r (by omega)
    have hm4:=set3o_mod hm3 (w.heap.size+1+1) 9 (rV (hm j).x) (rV (hm j).y) (rV (hm j).w) (by omega)
    have HX:Hid _:=And.intro hm4 (And.intro f_r4 f_t4)
    clear hmd hm3 k3 f_r f_t hm4 f_r4 f_t4
    go_wp2_with fail
    go_roundw
    case rel=>exact ⟨4,by omega,by go_num,HX.out.1,HX.out.2.1,HX.out.2.2⟩
    case measure=>simp [intOf];omega
  ·have hks:k=x.args.length:=by omega
   subst hks
   rw [HK.out] at f_t
   have HF1:Hid _:=f_t
   have HF2:Hid _:=f_r
   have HM:Hid _:=setRow_new (b:=w.heap.size+1) (C:=thC (thO (q.map It.x) x)) hmd (by omega)
   have HQ:Hid _:=run_loadVar_row (P:=Tryz.prog) _ _ _ 90 (thC (thO (q.map It.x) x)) (0,0) _ (setRow_at (C':=thC (thO (q.map It.x) x)) f_r) Tryz.underlying90 rfl Tryz.infoTh
   clear hmd f_r f_t
   go_wp2_with (first
    | (refine wpList_load_row rfl 90 _ rfl _ rfl (thC (thO (q.map It.x) x)) 90 (0,0) ?hb0 _ Tryz.underlying90 rfl Tryz.infoTh ?_;case hb0=>exact HF1.out)
    | (refine wpList_store_row rfl 90 _ _ rfl _ (thC thz) (thC (thO (q.map It.x) x)) 90 rfl rfl ?hb1 Tryz.infoTh rfl (th_one _) ?_;case hb1=>exact HF2.out))
   refine bodyPost_ret (v:=thV (thO (q.map It.x) x)) ?_ rfl ⟨rfl,HM.out⟩
   rw [results_one Tryz.results56]
   simp [asAddr,Result.andThen,HQ.out,Act.put]
end Go.Proofs.YtmnfndpbblpjiaaGreatDoor
