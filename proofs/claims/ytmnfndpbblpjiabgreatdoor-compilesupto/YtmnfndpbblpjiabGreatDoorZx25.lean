/- The maker's constructions, word by word. -/
import Derived.Test.YtmnfndpbblpjiabGreatDoorZx17
import Derived.Test.YtmnfndpbblpjiabGreatDoorZx21
import Derived.Test.YtmnfndpbblpjiabGreatDoorZx24
set_option maxHeartbeats 1600000
set_option maxRecDepth 100000
namespace Go.Proofs.YtmnfndpbblpjiabGreatDoor
open Go.RowKit Pu
theorem ah.md {a b c:World} {mb s i:Nat} {L:List Stp} (h:ah a b mb L s i) (hm:Mod (fun _=>False) b c):ah a c mb L s i:=⟨Kp.trans h.1 (Kp.of hm),h.2.mod hm⟩
theorem U1 (mb:Nat) (L:List Stp) (s i:Nat) (t:Th) (w:World) (hM:dS w mb L s i) (hroom:Room L s 3) (_h8:xB t) (hin:i < 100) :
  Calls Tryz.prog 50 #[mP mb,S [112,116],vI t] w fun e w'=>e=.returned (dZ (jP s))/\ah w w' mb (L++Ae s i) (s+3) (i+2):=by
 have r2:=hroom.2
 have E0:ah w ((w.alloc (kY t)).alloc d9) mb L s i:=ah.al (ah.al (show ah w w mb L s i from ⟨Kp.refl mb w,hM⟩) _) _
 have bE:iC ((w.alloc (kY t)).alloc d9) w.heap.size t:=(iC.new w t).al _
 have dR:aB ((w.alloc (kY t)).alloc d9) (w.heap.size+1) (.int .u8 0) (.int .u8 0) (.int .u8 0):=by
  have h:=heap_alloc_new (w.alloc (kY t)) d9
  simp only[bG]at h
  exact h
 have hsz:w.heap.size+1 < ((w.alloc (kY t)).alloc d9).heap.size:=by simp only[bG];omega
 obtain⟨c0,c1,c2,c3,c4,c5,c6,c7,c8,c9,c10,c11⟩:=bE.cs
 have HH:Hid _:=zI E0 (zI hsz dR)
 clear E0 bE dR hM hsz
 go_in
 go_wp2_with fail
 generalize (w.alloc (.cells #[rV t.a.x,rV t.a.y,rV t.a.w,rV t.b.x,rV t.b.y,rV t.b.w,rV t.c.x,rV t.c.y,rV t.c.w,rV t.d.x,rV t.d.y,rV t.d.w] 86)).alloc (.cells #[.int .u8 0,.int .u8 0,.int .u8 0] 84)=w0 at *
 clear c0 c1 c2 c3 c4 c5 c6 c7 c8 c9 c10 c11
 obtain⟨E0,hsz,dR⟩:=HH.out
 clear HH
 refine (Q7 mb _ s i w0 E0.2 (hroom.mono (by omega)) hin).mono ?_
 rintro e w1 ⟨rfl,k1⟩
 have E1:=ah.trans E0 k1
 replace dR:=aB.kp dR k1.1
 replace hsz:=Nat.lt_of_lt_of_le hsz k1.1.size
 have z0:=dN dR 0
 have z1:=dN dR 1
 have z2:=dN dR 2
 obtain⟨y0,y1,y2⟩:=cells3 dR
 have HC:Hid _:=cells3 (dD (x':=rV (jP s).x) (y':=rV (jP s).y) (z':=rV (jP s).w) dR)
 have HE:Hid _:=ah.st (x':=rV (jP s).x) (y':=rV (jP s).y) (z':=rV (jP s).w) E1 dR (by omega)
 clear k1 E0 E1 dR hroom
 go_wp2_with fail
 obtain⟨g0,g1,g2⟩:=HC.out
 unfold gL at g0 g1 g2
 exact bodyPost_ret (v:=dZ (jP s)) (by simp[results,Tryz.results50,go_sem,g0,g1,g2]) rfl ⟨rfl,HE.out⟩
theorem QV (mb:Nat) (L:List Stp) (s i:Nat) (t:Th) (w:World) (hM:dS w mb L s i) (hroom:Room L s 8) (h8:xB t) :
  Calls Tryz.prog 50 #[mP mb,S [109,105,100],vI t] w fun e w'=>e=.returned (dZ (gP s))/\ah w w' mb (L++uI s t.a t.b) (s+8) (i):=by
 have r2:=hroom.2
 have E0:ah w ((w.alloc (kY t)).alloc d9) mb L s i:=ah.al (ah.al (show ah w w mb L s i from ⟨Kp.refl mb w,hM⟩) _) _
 have bE:iC ((w.alloc (kY t)).alloc d9) w.heap.size t:=(iC.new w t).al _
 have dR:aB ((w.alloc (kY t)).alloc d9) (w.heap.size+1) (.int .u8 0) (.int .u8 0) (.int .u8 0):=by
  have h:=heap_alloc_new (w.alloc (kY t)) d9
  simp only[bG]at h
  exact h
 have hsz:w.heap.size+1 < ((w.alloc (kY t)).alloc d9).heap.size:=by simp only[bG];omega
 obtain⟨c0,c1,c2,c3,c4,c5,c6,c7,c8,c9,c10,c11⟩:=bE.cs
 have HH:Hid _:=zI E0 (zI hsz dR)
 clear E0 bE dR hM hsz
 go_in
 go_wp2_with fail
 generalize (w.alloc (.cells #[rV t.a.x,rV t.a.y,rV t.a.w,rV t.b.x,rV t.b.y,rV t.b.w,rV t.c.x,rV t.c.y,rV t.c.w,rV t.d.x,rV t.d.y,rV t.d.w] 86)).alloc (.cells #[.int .u8 0,.int .u8 0,.int .u8 0] 84)=w0 at *
 clear c0 c1 c2 c3 c4 c5 c6 c7 c8 c9 c10 c11
 obtain⟨E0,hsz,dR⟩:=HH.out
 clear HH
 refine (GJ mb _ s i t.a t.b w0 E0.2 (hroom.mono (by omega)) h8.a h8.b).mono ?_
 rintro e w1 ⟨rfl,k1⟩
 have E1:=ah.trans E0 k1
 replace dR:=aB.kp dR k1.1
 replace hsz:=Nat.lt_of_lt_of_le hsz k1.1.size
 have z0:=dN dR 0
 have z1:=dN dR 1
 have z2:=dN dR 2
 obtain⟨y0,y1,y2⟩:=cells3 dR
 have HC:Hid _:=cells3 (dD (x':=rV (gP s).x) (y':=rV (gP s).y) (z':=rV (gP s).w) dR)
 have HE:Hid _:=ah.st (x':=rV (gP s).x) (y':=rV (gP s).y) (z':=rV (gP s).w) E1 dR (by omega)
 clear k1 E0 E1 dR hroom
 go_wp2_with fail
 obtain⟨g0,g1,g2⟩:=HC.out
 unfold gL at g0 g1 g2
 exact bodyPost_ret (v:=dZ (gP s)) (by simp[results,Tryz.results50,go_sem,g0,g1,g2]) rfl ⟨rfl,HE.out⟩
theorem QW (mb:Nat) (L:List Stp) (s i:Nat) (t:Th) (w:World) (hM:dS w mb L s i) (hroom:Room L s 7) (h8:xB t) :
  Calls Tryz.prog 50 #[mP mb,S [112,97,114],vI t] w fun e w'=>e=.returned (dZ (lZ s))/\ah w w' mb (L++zx s t.a t.b) (s+7) (i):=by
 have r2:=hroom.2
 have E0:ah w ((w.alloc (kY t)).alloc d9) mb L s i:=ah.al (ah.al (show ah w w mb L s i from ⟨Kp.refl mb w,hM⟩) _) _
 have bE:iC ((w.alloc (kY t)).alloc d9) w.heap.size t:=(iC.new w t).al _
 have dR:aB ((w.alloc (kY t)).alloc d9) (w.heap.size+1) (.int .u8 0) (.int .u8 0) (.int .u8 0):=by
  have h:=heap_alloc_new (w.alloc (kY t)) d9
  simp only[bG]at h
  exact h
 have hsz:w.heap.size+1 < ((w.alloc (kY t)).alloc d9).heap.size:=by simp only[bG];omega
 obtain⟨c0,c1,c2,c3,c4,c5,c6,c7,c8,c9,c10,c11⟩:=bE.cs
 have HH:Hid _:=zI E0 (zI hsz dR)
 clear E0 bE dR hM hsz
 go_in
 go_wp2_with fail
 generalize (w.alloc (.cells #[rV t.a.x,rV t.a.y,rV t.a.w,rV t.b.x,rV t.b.y,rV t.b.w,rV t.c.x,rV t.c.y,rV t.c.w,rV t.d.x,rV t.d.y,rV t.d.w] 86)).alloc (.cells #[.int .u8 0,.int .u8 0,.int .u8 0] 84)=w0 at *
 clear c0 c1 c2 c3 c4 c5 c6 c7 c8 c9 c10 c11
 obtain⟨E0,hsz,dR⟩:=HH.out
 clear HH
 refine (GK mb _ s i t.a t.b w0 E0.2 (hroom.mono (by omega)) h8.a h8.b).mono ?_
 rintro e w1 ⟨rfl,k1⟩
 have E1:=ah.trans E0 k1
 replace dR:=aB.kp dR k1.1
 replace hsz:=Nat.lt_of_lt_of_le hsz k1.1.size
 have z0:=dN dR 0
 have z1:=dN dR 1
 have z2:=dN dR 2
 obtain⟨y0,y1,y2⟩:=cells3 dR
 have HC:Hid _:=cells3 (dD (x':=rV (lZ s).x) (y':=rV (lZ s).y) (z':=rV (lZ s).w) dR)
 have HE:Hid _:=ah.st (x':=rV (lZ s).x) (y':=rV (lZ s).y) (z':=rV (lZ s).w) E1 dR (by omega)
 clear k1 E0 E1 dR hroom
 go_wp2_with fail
 obtain⟨g0,g1,g2⟩:=HC.out
 unfold gL at g0 g1 g2
 exact bodyPost_ret (v:=dZ (lZ s)) (by simp[results,Tryz.results50,go_sem,g0,g1,g2]) rfl ⟨rfl,HE.out⟩
theorem Nr (mb:Nat) (L:List Stp) (s i:Nat) (t:Th) (w:World) (hM:dS w mb L s i) (hroom:Room L s 9) (h8:xB t) :
  Calls Tryz.prog 50 #[mP mb,S [112,101,114,112],vI t] w fun e w'=>e=.returned (dZ (eD s))/\ah w w' mb (L++tC s t.a t.b) (s+9) (i):=by
 have r2:=hroom.2
 have E0:ah w ((w.alloc (kY t)).alloc d9) mb L s i:=ah.al (ah.al (show ah w w mb L s i from ⟨Kp.refl mb w,hM⟩) _) _
 have bE:iC ((w.alloc (kY t)).alloc d9) w.heap.size t:=(iC.new w t).al _
 have dR:aB ((w.alloc (kY t)).alloc d9) (w.heap.size+1) (.int .u8 0) (.int .u8 0) (.int .u8 0):=by
  have h:=heap_alloc_new (w.alloc (kY t)) d9
  simp only[bG]at h
  exact h
 have hsz:w.heap.size+1 < ((w.alloc (kY t)).alloc d9).heap.size:=by simp only[bG];omega
 obtain⟨c0,c1,c2,c3,c4,c5,c6,c7,c8,c9,c10,c11⟩:=bE.cs
 have HH:Hid _:=zI E0 (zI hsz dR)
 clear E0 bE dR hM hsz
 go_in
 go_wp2_with fail
 generalize (w.alloc (.cells #[rV t.a.x,rV t.a.y,rV t.a.w,rV t.b.x,rV t.b.y,rV t.b.w,rV t.c.x,rV t.c.y,rV t.c.w,rV t.d.x,rV t.d.y,rV t.d.w] 86)).alloc (.cells #[.int .u8 0,.int .u8 0,.int .u8 0] 84)=w0 at *
 clear c0 c1 c2 c3 c4 c5 c6 c7 c8 c9 c10 c11
 obtain⟨E0,hsz,dR⟩:=HH.out
 clear HH
 refine (AL mb _ s i t.a t.b w0 E0.2 (hroom.mono (by omega)) h8.a h8.b).mono ?_
 rintro e w1 ⟨rfl,k1⟩
 have E1:=ah.trans E0 k1
 replace dR:=aB.kp dR k1.1
 replace hsz:=Nat.lt_of_lt_of_le hsz k1.1.size
 have z0:=dN dR 0
 have z1:=dN dR 1
 have z2:=dN dR 2
 obtain⟨y0,y1,y2⟩:=cells3 dR
 have HC:Hid _:=cells3 (dD (x':=rV (eD s).x) (y':=rV (eD s).y) (z':=rV (eD s).w) dR)
 have HE:Hid _:=ah.st (x':=rV (eD s).x) (y':=rV (eD s).y) (z':=rV (eD s).w) E1 dR (by omega)
 clear k1 E0 E1 dR hroom
 go_wp2_with fail
 obtain⟨g0,g1,g2⟩:=HC.out
 unfold gL at g0 g1 g2
 exact bodyPost_ret (v:=dZ (eD s)) (by simp[results,Tryz.results50,go_sem,g0,g1,g2]) rfl ⟨rfl,HE.out⟩
theorem Nn (mb:Nat) (L:List Stp) (s i:Nat) (t:Th) (w:World) (hM:dS w mb L s i) (hroom:Room L s 18) (h8:xB t) :
  Calls Tryz.prog 50 #[mP mb,S [102,111,111,116],vI t] w fun e w'=>e=.returned (dZ (dX s))/\ah w w' mb (L++jC s t.a t.b) (s+18) (i):=by
 have r2:=hroom.2
 have E0:ah w ((w.alloc (kY t)).alloc d9) mb L s i:=ah.al (ah.al (show ah w w mb L s i from ⟨Kp.refl mb w,hM⟩) _) _
 have bE:iC ((w.alloc (kY t)).alloc d9) w.heap.size t:=(iC.new w t).al _
 have dR:aB ((w.alloc (kY t)).alloc d9) (w.heap.size+1) (.int .u8 0) (.int .u8 0) (.int .u8 0):=by
  have h:=heap_alloc_new (w.alloc (kY t)) d9
  simp only[bG]at h
  exact h
 have hsz:w.heap.size+1 < ((w.alloc (kY t)).alloc d9).heap.size:=by simp only[bG];omega
 obtain⟨c0,c1,c2,c3,c4,c5,c6,c7,c8,c9,c10,c11⟩:=bE.cs
 have HH:Hid _:=zI E0 (zI hsz dR)
 clear E0 bE dR hM hsz
 go_in
 go_wp2_with fail
 generalize (w.alloc (.cells #[rV t.a.x,rV t.a.y,rV t.a.w,rV t.b.x,rV t.b.y,rV t.b.w,rV t.c.x,rV t.c.y,rV t.c.w,rV t.d.x,rV t.d.y,rV t.d.w] 86)).alloc (.cells #[.int .u8 0,.int .u8 0,.int .u8 0] 84)=w0 at *
 clear c0 c1 c2 c3 c4 c5 c6 c7 c8 c9 c10 c11
 obtain⟨E0,hsz,dR⟩:=HH.out
 clear HH
 refine (Db mb _ s i t.a t.b w0 E0.2 (hroom.mono (by omega)) h8.a h8.b).mono ?_
 rintro e w1 ⟨rfl,k1⟩
 have E1:=ah.trans E0 k1
 replace dR:=aB.kp dR k1.1
 replace hsz:=Nat.lt_of_lt_of_le hsz k1.1.size
 have z0:=dN dR 0
 have z1:=dN dR 1
 have z2:=dN dR 2
 obtain⟨y0,y1,y2⟩:=cells3 dR
 have HC:Hid _:=cells3 (dD (x':=rV (dX s).x) (y':=rV (dX s).y) (z':=rV (dX s).w) dR)
 have HE:Hid _:=ah.st (x':=rV (dX s).x) (y':=rV (dX s).y) (z':=rV (dX s).w) E1 dR (by omega)
 clear k1 E0 E1 dR hroom
 go_wp2_with fail
 obtain⟨g0,g1,g2⟩:=HC.out
 unfold gL at g0 g1 g2
 exact bodyPost_ret (v:=dZ (dX s)) (by simp[results,Tryz.results50,go_sem,g0,g1,g2]) rfl ⟨rfl,HE.out⟩
theorem Gv (mb:Nat) (L:List Stp) (s i:Nat) (t:Th) (w:World) (hM:dS w mb L s i) (hroom:Room L s 27) (h8:xB t) :
  Calls Tryz.prog 50 #[mP mb,S [109,105,114,114,111,114],vI t] w fun e w'=>e=.returned (dZ (wE s))/\ah w w' mb (L++Eh s t.a t.b) (s+27) (i):=by
 have r2:=hroom.2
 have E0:ah w ((w.alloc (kY t)).alloc d9) mb L s i:=ah.al (ah.al (show ah w w mb L s i from ⟨Kp.refl mb w,hM⟩) _) _
 have bE:iC ((w.alloc (kY t)).alloc d9) w.heap.size t:=(iC.new w t).al _
 have dR:aB ((w.alloc (kY t)).alloc d9) (w.heap.size+1) (.int .u8 0) (.int .u8 0) (.int .u8 0):=by
  have h:=heap_alloc_new (w.alloc (kY t)) d9
  simp only[bG]at h
  exact h
 have hsz:w.heap.size+1 < ((w.alloc (kY t)).alloc d9).heap.size:=by simp only[bG];omega
 obtain⟨c0,c1,c2,c3,c4,c5,c6,c7,c8,c9,c10,c11⟩:=bE.cs
 have HH:Hid _:=zI E0 (zI hsz dR)
 clear E0 bE dR hM hsz
 go_in
 go_wp2_with fail
 generalize (w.alloc (.cells #[rV t.a.x,rV t.a.y,rV t.a.w,rV t.b.x,rV t.b.y,rV t.b.w,rV t.c.x,rV t.c.y,rV t.c.w,rV t.d.x,rV t.d.y,rV t.d.w] 86)).alloc (.cells #[.int .u8 0,.int .u8 0,.int .u8 0] 84)=w0 at *
 clear c0 c1 c2 c3 c4 c5 c6 c7 c8 c9 c10 c11
 obtain⟨E0,hsz,dR⟩:=HH.out
 clear HH
 refine (Rh mb _ s i t.a t.b w0 E0.2 (hroom.mono (by omega)) h8.a h8.b).mono ?_
 rintro e w1 ⟨rfl,k1⟩
 have E1:=ah.trans E0 k1
 replace dR:=aB.kp dR k1.1
 replace hsz:=Nat.lt_of_lt_of_le hsz k1.1.size
 have z0:=dN dR 0
 have z1:=dN dR 1
 have z2:=dN dR 2
 obtain⟨y0,y1,y2⟩:=cells3 dR
 have HC:Hid _:=cells3 (dD (x':=rV (wE s).x) (y':=rV (wE s).y) (z':=rV (wE s).w) dR)
 have HE:Hid _:=ah.st (x':=rV (wE s).x) (y':=rV (wE s).y) (z':=rV (wE s).w) E1 dR (by omega)
 clear k1 E0 E1 dR hroom
 go_wp2_with fail
 obtain⟨g0,g1,g2⟩:=HC.out
 unfold gL at g0 g1 g2
 exact bodyPost_ret (v:=dZ (wE s)) (by simp[results,Tryz.results50,go_sem,g0,g1,g2]) rfl ⟨rfl,HE.out⟩
theorem Gu (mb:Nat) (L:List Stp) (s i:Nat) (t:Th) (w:World) (hM:dS w mb L s i) (hroom:Room L s 61) (h8:xB t) :
  Calls Tryz.prog 50 #[mP mb,S [99,101,110,116,114,101],vI t] w fun e w'=>e=.returned (dZ (uT s))/\ah w w' mb (L++zW s t.a t.b t.c) (s+61) (i):=by
 have r2:=hroom.2
 have E0:ah w ((w.alloc (kY t)).alloc d9) mb L s i:=ah.al (ah.al (show ah w w mb L s i from ⟨Kp.refl mb w,hM⟩) _) _
 have bE:iC ((w.alloc (kY t)).alloc d9) w.heap.size t:=(iC.new w t).al _
 have dR:aB ((w.alloc (kY t)).alloc d9) (w.heap.size+1) (.int .u8 0) (.int .u8 0) (.int .u8 0):=by
  have h:=heap_alloc_new (w.alloc (kY t)) d9
  simp only[bG]at h
  exact h
 have hsz:w.heap.size+1 < ((w.alloc (kY t)).alloc d9).heap.size:=by simp only[bG];omega
 obtain⟨c0,c1,c2,c3,c4,c5,c6,c7,c8,c9,c10,c11⟩:=bE.cs
 have HH:Hid _:=zI E0 (zI hsz dR)
 clear E0 bE dR hM hsz
 go_in
 go_wp2_with fail
 generalize (w.alloc (.cells #[rV t.a.x,rV t.a.y,rV t.a.w,rV t.b.x,rV t.b.y,rV t.b.w,rV t.c.x,rV t.c.y,rV t.c.w,rV t.d.x,rV t.d.y,rV t.d.w] 86)).alloc (.cells #[.int .u8 0,.int .u8 0,.int .u8 0] 84)=w0 at *
 clear c0 c1 c2 c3 c4 c5 c6 c7 c8 c9 c10 c11
 obtain⟨E0,hsz,dR⟩:=HH.out
 clear HH
 refine (QT mb _ s i t.a t.b t.c w0 E0.2 (hroom.mono (by omega)) h8.a h8.b h8.c).mono ?_
 rintro e w1 ⟨rfl,k1⟩
 have E1:=ah.trans E0 k1
 replace dR:=aB.kp dR k1.1
 replace hsz:=Nat.lt_of_lt_of_le hsz k1.1.size
 have z0:=dN dR 0
 have z1:=dN dR 1
 have z2:=dN dR 2
 obtain⟨y0,y1,y2⟩:=cells3 dR
 have HC:Hid _:=cells3 (dD (x':=rV (uT s).x) (y':=rV (uT s).y) (z':=rV (uT s).w) dR)
 have HE:Hid _:=ah.st (x':=rV (uT s).x) (y':=rV (uT s).y) (z':=rV (uT s).w) E1 dR (by omega)
 clear k1 E0 E1 dR hroom
 go_wp2_with fail
 obtain⟨g0,g1,g2⟩:=HC.out
 unfold gL at g0 g1 g2
 exact bodyPost_ret (v:=dZ (uT s)) (by simp[results,Tryz.results50,go_sem,g0,g1,g2]) rfl ⟨rfl,HE.out⟩
theorem Np (mb:Nat) (L:List Stp) (s i:Nat) (t:Th) (w:World) (hM:dS w mb L s i) (hroom:Room L s 9) (h8:xB t) :
  Calls Tryz.prog 50 #[mP mb,S [108,105,110,101],vI t] w fun e w'=>e=.returned (dZ (aA s))/\ah w w' mb (L++dM s t.a t.b) (s+9) (i):=by
 have r2:=hroom.2
 have E0:ah w ((w.alloc (kY t)).alloc d9) mb L s i:=ah.al (ah.al (show ah w w mb L s i from ⟨Kp.refl mb w,hM⟩) _) _
 have bE:iC ((w.alloc (kY t)).alloc d9) w.heap.size t:=(iC.new w t).al _
 have dR:aB ((w.alloc (kY t)).alloc d9) (w.heap.size+1) (.int .u8 0) (.int .u8 0) (.int .u8 0):=by
  have h:=heap_alloc_new (w.alloc (kY t)) d9
  simp only[bG]at h
  exact h
 have hsz:w.heap.size+1 < ((w.alloc (kY t)).alloc d9).heap.size:=by simp only[bG];omega
 obtain⟨c0,c1,c2,c3,c4,c5,c6,c7,c8,c9,c10,c11⟩:=bE.cs
 have HH:Hid _:=zI E0 (zI hsz dR)
 clear E0 bE dR hM hsz
 go_in
 go_wp2_with fail
 generalize (w.alloc (.cells #[rV t.a.x,rV t.a.y,rV t.a.w,rV t.b.x,rV t.b.y,rV t.b.w,rV t.c.x,rV t.c.y,rV t.c.w,rV t.d.x,rV t.d.y,rV t.d.w] 86)).alloc (.cells #[.int .u8 0,.int .u8 0,.int .u8 0] 84)=w0 at *
 clear c0 c1 c2 c3 c4 c5 c6 c7 c8 c9 c10 c11
 obtain⟨E0,hsz,dR⟩:=HH.out
 clear HH
 refine (lJ mb _ s i t.a t.b w0 E0.2 (hroom.mono (by omega)) h8.a h8.b).mono ?_
 rintro e w1 ⟨rfl,k1⟩
 have E1:=ah.trans E0 k1
 replace dR:=aB.kp dR k1.1
 replace hsz:=Nat.lt_of_lt_of_le hsz k1.1.size
 have z0:=dN dR 0
 have z1:=dN dR 1
 have z2:=dN dR 2
 obtain⟨y0,y1,y2⟩:=cells3 dR
 have HC:Hid _:=cells3 (dD (x':=rV (aA s).x) (y':=rV (aA s).y) (z':=rV (aA s).w) dR)
 have HE:Hid _:=ah.st (x':=rV (aA s).x) (y':=rV (aA s).y) (z':=rV (aA s).w) E1 dR (by omega)
 clear k1 E0 E1 dR hroom
 go_wp2_with fail
 obtain⟨g0,g1,g2⟩:=HC.out
 unfold gL at g0 g1 g2
 exact bodyPost_ret (v:=dZ (aA s)) (by simp[results,Tryz.results50,go_sem,g0,g1,g2]) rfl ⟨rfl,HE.out⟩
theorem Nq (mb:Nat) (L:List Stp) (s i:Nat) (t:Th) (w:World) (hM:dS w mb L s i) (hroom:Room L s 9) (h8:xB t) :
  Calls Tryz.prog 50 #[mP mb,S [109,101,101,116],vI t] w fun e w'=>e=.returned (dZ (aA s))/\ah w w' mb (L++dM s t.a t.b) (s+9) (i):=by
 have r2:=hroom.2
 have E0:ah w ((w.alloc (kY t)).alloc d9) mb L s i:=ah.al (ah.al (show ah w w mb L s i from ⟨Kp.refl mb w,hM⟩) _) _
 have bE:iC ((w.alloc (kY t)).alloc d9) w.heap.size t:=(iC.new w t).al _
 have dR:aB ((w.alloc (kY t)).alloc d9) (w.heap.size+1) (.int .u8 0) (.int .u8 0) (.int .u8 0):=by
  have h:=heap_alloc_new (w.alloc (kY t)) d9
  simp only[bG]at h
  exact h
 have hsz:w.heap.size+1 < ((w.alloc (kY t)).alloc d9).heap.size:=by simp only[bG];omega
 obtain⟨c0,c1,c2,c3,c4,c5,c6,c7,c8,c9,c10,c11⟩:=bE.cs
 have HH:Hid _:=zI E0 (zI hsz dR)
 clear E0 bE dR hM hsz
 go_in
 go_wp2_with fail
 generalize (w.alloc (.cells #[rV t.a.x,rV t.a.y,rV t.a.w,rV t.b.x,rV t.b.y,rV t.b.w,rV t.c.x,rV t.c.y,rV t.c.w,rV t.d.x,rV t.d.y,rV t.d.w] 86)).alloc (.cells #[.int .u8 0,.int .u8 0,.int .u8 0] 84)=w0 at *
 clear c0 c1 c2 c3 c4 c5 c6 c7 c8 c9 c10 c11
 obtain⟨E0,hsz,dR⟩:=HH.out
 clear HH
 refine (lJ mb _ s i t.a t.b w0 E0.2 (hroom.mono (by omega)) h8.a h8.b).mono ?_
 rintro e w1 ⟨rfl,k1⟩
 have E1:=ah.trans E0 k1
 replace dR:=aB.kp dR k1.1
 replace hsz:=Nat.lt_of_lt_of_le hsz k1.1.size
 have z0:=dN dR 0
 have z1:=dN dR 1
 have z2:=dN dR 2
 obtain⟨y0,y1,y2⟩:=cells3 dR
 have HC:Hid _:=cells3 (dD (x':=rV (aA s).x) (y':=rV (aA s).y) (z':=rV (aA s).w) dR)
 have HE:Hid _:=ah.st (x':=rV (aA s).x) (y':=rV (aA s).y) (z':=rV (aA s).w) E1 dR (by omega)
 clear k1 E0 E1 dR hroom
 go_wp2_with fail
 obtain⟨g0,g1,g2⟩:=HC.out
 unfold gL at g0 g1 g2
 exact bodyPost_ret (v:=dZ (aA s)) (by simp[results,Tryz.results50,go_sem,g0,g1,g2]) rfl ⟨rfl,HE.out⟩
theorem Nz (mb:Nat) (L:List Stp) (s i:Nat) (m:Tr) (k:Nat) (w:World) (hM:dS w mb L s i) (hroom:Room L s 4) (h8:S8 m) (hk:k < 16) :
  Calls Tryz.prog 51 #[mP mb,S [108,105,110,101],dZ m,.int .i64 k] w fun e w'=>e=.returned (.tuple #[])/\ah w w' mb (L++(bJ s m.x m.x m.y m.y++[⟨7,s+2,0,k⟩])) (s+3) i:=by
 have r2:=hroom.2
 have wk:IntKind.u8.wrap (k:Int)=(k:Int):=by simp[IntKind.wrap,IntKind.signed,IntKind.bits];omega
 have E0:ah w (w.alloc (aS m)) mb L s i:=ah.al (show ah w w mb L s i from ⟨Kp.refl mb w,hM⟩) _
 have gq:kT (w.alloc (aS m)) w.heap.size m:=heap_alloc_new w _
 obtain⟨c0,c1,c2⟩:=cells3 gq
 have HH:Hid _:=zI E0 gq
 clear E0 gq hM
 go_in
 go_wp2_with fail
 generalize w.alloc (.cells #[rV m.x,rV m.y,rV m.w] 84)=w0 at *
 clear c0 c1 c2
 obtain⟨E0,gq⟩:=HH.out
 clear HH
 refine (nk mb _ s i m.x m.x m.y m.y w0 E0.2 (hroom.mono (by omega)) h8.1 h8.1 h8.2.1 h8.2.1).mono ?_
 rintro e w1 ⟨he,k1⟩
 obtain⟨v,hv⟩:∃ x:Nat,x=s+2:=⟨_,rfl⟩
 have he2:e=.returned (rV v):=by rw[hv];exact he
 have Z7:v < 256:=by omega
 have Hv:Hid (v=s+2):=hv
 clear he hv
 subst he2
 have E1:=ah.trans E0 k1
 have HH:Hid _:=E1
 clear k1 E0 E1 gq
 go_wp2_with fail
 have E1:=HH.out
 clear HH
 refine (lV mb _ (s+3) i ⟨7,v,0,k⟩ w1 E1.2 (by have:=hroom.1;simp[bJ];omega) ⟨by show 7 < 256;omega,Z7,by show 0 < 256;omega,by show k < 256;omega⟩).mono ?_
 rintro e w2 ⟨rfl,k2,m2⟩
 have HE:Hid _:=ah.trans E1 (show ah w1 w2 mb _ (s+3) i from ⟨k2,m2⟩)
 clear k2 m2 E1
 go_wp2_with fail
 have hL:L++bJ s m.x m.x m.y m.y++[⟨7,v,0,k⟩]=L++(bJ s m.x m.x m.y m.y++[⟨7,s+2,0,k⟩]):=by rw[Hv.out,List.append_assoc]
 exact bodyPost_end (v:=.tuple #[]) (by simp[results,Tryz.results51]) rfl ⟨rfl,by rw[<- hL];exact HE.out⟩
theorem NA (mb:Nat) (L:List Stp) (s i:Nat) (m:Tr) (k:Nat) (w:World) (hM:dS w mb L s i) (hroom:Room L s 4) (h8:S8 m) (hk:k < 16) :
  Calls Tryz.prog 51 #[mP mb,S [109,101,101,116],dZ m,.int .i64 k] w fun e w'=>e=.returned (.tuple #[])/\ah w w' mb (L++[⟨7,m.w,1,k⟩]) (s+0) i:=by
 have r2:=hroom.2
 have wk:IntKind.u8.wrap (k:Int)=(k:Int):=by simp[IntKind.wrap,IntKind.signed,IntKind.bits];omega
 have E0:ah w (w.alloc (aS m)) mb L s i:=ah.al (show ah w w mb L s i from ⟨Kp.refl mb w,hM⟩) _
 have gq:kT (w.alloc (aS m)) w.heap.size m:=heap_alloc_new w _
 obtain⟨c0,c1,c2⟩:=cells3 gq
 have HH:Hid _:=zI E0 gq
 clear E0 gq hM
 go_in
 go_wp2_with fail
 generalize w.alloc (.cells #[rV m.x,rV m.y,rV m.w] 84)=w0 at *
 clear c0 c1 c2
 obtain⟨E0,gq⟩:=HH.out
 clear HH
 refine (lV mb _ s i ⟨7,m.w,1,k⟩ w0 E0.2 (by have:=hroom.1;omega) ⟨by show 7 < 256;omega,h8.2.2,by show 1 < 256;omega,by show k < 256;omega⟩).mono ?_
 rintro e w1 ⟨rfl,k1,m1⟩
 have HE:Hid _:=ah.trans E0 (show ah w0 w1 mb _ s i from ⟨k1,m1⟩)
 clear k1 m1 E0 gq
 go_wp2
 exact bodyPost_end (v:=.tuple #[]) (by simp[results,Tryz.results51]) rfl ⟨rfl,HE.out⟩
theorem Gz (mb:Nat) (L:List Stp) (s i:Nat) (m:Tr) (k:Nat) (w:World) (hM:dS w mb L s i) (hroom:Room L s 4) (h8:S8 m) (hk:k < 16) :
  Calls Tryz.prog 51 #[mP mb,S [99,101,110,116,114,101],dZ m,.int .i64 k] w fun e w'=>e=.returned (.tuple #[])/\ah w w' mb (L++[⟨7,m.w,2,k⟩]) (s+0) i:=by
 have r2:=hroom.2
 have wk:IntKind.u8.wrap (k:Int)=(k:Int):=by simp[IntKind.wrap,IntKind.signed,IntKind.bits];omega
 have E0:ah w (w.alloc (aS m)) mb L s i:=ah.al (show ah w w mb L s i from ⟨Kp.refl mb w,hM⟩) _
 have gq:kT (w.alloc (aS m)) w.heap.size m:=heap_alloc_new w _
 obtain⟨c0,c1,c2⟩:=cells3 gq
 have HH:Hid _:=zI E0 gq
 clear E0 gq hM
 go_in
 go_wp2_with fail
 generalize w.alloc (.cells #[rV m.x,rV m.y,rV m.w] 84)=w0 at *
 clear c0 c1 c2
 obtain⟨E0,gq⟩:=HH.out
 clear HH
 refine (lV mb _ s i ⟨7,m.w,2,k⟩ w0 E0.2 (by have:=hroom.1;omega) ⟨by show 7 < 256;omega,h8.2.2,by show 2 < 256;omega,by show k < 256;omega⟩).mono ?_
 rintro e w1 ⟨rfl,k1,m1⟩
 have HE:Hid _:=ah.trans E0 (show ah w0 w1 mb _ s i from ⟨k1,m1⟩)
 clear k1 m1 E0 gq
 go_wp2
 exact bodyPost_end (v:=.tuple #[]) (by simp[results,Tryz.results51]) rfl ⟨rfl,HE.out⟩
theorem yg (wd:List UInt8) (hw:wd=[112,116]\/wd=[109,105,100]\/wd=[112,97,114]\/wd=[112,101,114,112]\/wd=[102,111,111,116]\/wd=[109,105,114,114,111,114]) (mb:Nat) (L:List Stp) (s i:Nat) (m:Tr) (k:Nat) (w:World) (hM:dS w mb L s i) (_hroom:Room L s 4) (_h8:S8 m) (_hk:k < 16) :
  Calls Tryz.prog 51 #[mP mb,S wd,dZ m,.int .i64 k] w fun e w'=>e=.returned (.tuple #[])/\ah w w' mb (L++[]) (s+0) i:=by
 rcases hw with rfl | rfl | rfl | rfl | rfl | rfl
 all_goals
  have E0:ah w (w.alloc (aS m)) mb L s i:=ah.al (show ah w w mb L s i from ⟨Kp.refl mb w,hM⟩) _
  have gq:kT (w.alloc (aS m)) w.heap.size m:=heap_alloc_new w _
  obtain⟨c0,c1,c2⟩:=cells3 gq
  have HH:Hid _:=zI E0 gq
  clear E0 gq hM
  go_in
  go_wp2_with fail
  generalize w.alloc (.cells #[rV m.x,rV m.y,rV m.w] 84)=w0 at *
  clear c0 c1 c2
  obtain⟨E0,gq⟩:=HH.out
  clear HH
  exact bodyPost_end (v:=.tuple #[]) (by simp[results,Tryz.results51]) rfl ⟨rfl,by rw[List.append_nil];exact E0⟩
theorem U9 (mb:Nat) (L:List Stp) (s i:Nat) (m:Tr) (k:Nat) (w:World) (hM:dS w mb L s i) (_hroom:Room L s 4) (_h8:S8 m) (_hk:k < 16):Calls Tryz.prog 51 #[mP mb,S [112,116],dZ m,.int .i64 k] w fun e w'=>e=.returned (.tuple #[])/\ah w w' mb (L++[]) (s+0) i:=yg _ (.inl rfl) mb L s i m k w hM _hroom _h8 _hk
theorem Q9 (mb:Nat) (L:List Stp) (s i:Nat) (m:Tr) (k:Nat) (w:World) (hM:dS w mb L s i) (_hroom:Room L s 4) (_h8:S8 m) (_hk:k < 16):Calls Tryz.prog 51 #[mP mb,S [109,105,100],dZ m,.int .i64 k] w fun e w'=>e=.returned (.tuple #[])/\ah w w' mb (L++[]) (s+0) i:=yg _ (.inr (.inl rfl)) mb L s i m k w hM _hroom _h8 _hk
theorem Ra (mb:Nat) (L:List Stp) (s i:Nat) (m:Tr) (k:Nat) (w:World) (hM:dS w mb L s i) (_hroom:Room L s 4) (_h8:S8 m) (_hk:k < 16):Calls Tryz.prog 51 #[mP mb,S [112,97,114],dZ m,.int .i64 k] w fun e w'=>e=.returned (.tuple #[])/\ah w w' mb (L++[]) (s+0) i:=yg _ (.inr (.inr (.inl rfl))) mb L s i m k w hM _hroom _h8 _hk
theorem NC (mb:Nat) (L:List Stp) (s i:Nat) (m:Tr) (k:Nat) (w:World) (hM:dS w mb L s i) (_hroom:Room L s 4) (_h8:S8 m) (_hk:k < 16):Calls Tryz.prog 51 #[mP mb,S [112,101,114,112],dZ m,.int .i64 k] w fun e w'=>e=.returned (.tuple #[])/\ah w w' mb (L++[]) (s+0) i:=yg _ (.inr (.inr (.inr (.inl rfl)))) mb L s i m k w hM _hroom _h8 _hk
theorem Ny (mb:Nat) (L:List Stp) (s i:Nat) (m:Tr) (k:Nat) (w:World) (hM:dS w mb L s i) (_hroom:Room L s 4) (_h8:S8 m) (_hk:k < 16):Calls Tryz.prog 51 #[mP mb,S [102,111,111,116],dZ m,.int .i64 k] w fun e w'=>e=.returned (.tuple #[])/\ah w w' mb (L++[]) (s+0) i:=yg _ (.inr (.inr (.inr (.inr (.inl rfl))))) mb L s i m k w hM _hroom _h8 _hk
theorem GA (mb:Nat) (L:List Stp) (s i:Nat) (m:Tr) (k:Nat) (w:World) (hM:dS w mb L s i) (_hroom:Room L s 4) (_h8:S8 m) (_hk:k < 16):Calls Tryz.prog 51 #[mP mb,S [109,105,114,114,111,114],dZ m,.int .i64 k] w fun e w'=>e=.returned (.tuple #[])/\ah w w' mb (L++[]) (s+0) i:=yg _ (.inr (.inr (.inr (.inr (.inr (rfl)))))) mb L s i m k w hM _hroom _h8 _hk
theorem rY (k:Nat) (hk:k < 16) (w:World):Calls Tryz.prog 78 #[.int .i64 k] w fun e w'=>e=.returned (dZ (hm k))/\Mod (fun _=>False) w w':=by
 obtain⟨m,hm0⟩:∃ m:Nat,m=3*k:=⟨_,rfl⟩
 obtain⟨m1,hm1⟩:∃ m1:Nat,m1=m+1:=⟨_,rfl⟩
 obtain⟨m2,hm2⟩:∃ m2:Nat,m2=m+2:=⟨_,rfl⟩
 have w0:IntKind.i64.wrap (3*(k:Int))=(m:Int):=by simp[IntKind.wrap,IntKind.signed,IntKind.bits];omega
 have w1:IntKind.u8.wrap (m:Int)=(m:Int):=by simp[IntKind.wrap,IntKind.signed,IntKind.bits];omega
 have w2:IntKind.u8.wrap ((m:Int)+1)=(m1:Int):=by simp[IntKind.wrap,IntKind.signed,IntKind.bits];omega
 have w3:IntKind.u8.wrap ((m:Int)+2)=(m2:Int):=by simp[IntKind.wrap,IntKind.signed,IntKind.bits];omega
 have HR:Hid ((.agg #[rV m,rV m1,rV m2]:Value)=dZ (hm k)):=by show _=_;rw[hm2,hm1,hm0];rfl
 clear hm0 hm1 hm2 hk
 go_in
 go_wp2
 exact bodyPost_ret (v:=.agg #[rV m,rV m1,rV m2]) (by simp[results,Tryz.results78,go_sem]) rfl ⟨by rw[HR.out],(Mod.refl _ w).alloc _⟩
theorem yc (wd:List UInt8) (hw:wd=[112,116]\/wd=[109,105,100]\/wd=[109,101,101,116]\/wd=[102,111,111,116]\/wd=[109,105,114,114,111,114]\/wd=[99,101,110,116,114,101]) (mb:Nat) (L:List Stp) (s i:Nat) (m:Tr) (w:World) (hM:dS w mb L s i) (hroom:Room L s 4) (h8:S8 m) :
  Calls Tryz.prog 92 #[mP mb,S wd,dZ m] w fun e w'=>e=.returned (rV s)/\ah w w' mb (L++[⟨5,s,m.w,0⟩]) (s+1) i:=by
 rcases hw with rfl | rfl | rfl | rfl | rfl | rfl
 all_goals
  have E0:ah w (w.alloc (aS m)) mb L s i:=ah.al (show ah w w mb L s i from ⟨Kp.refl mb w,hM⟩) _
  have gq:kT (w.alloc (aS m)) w.heap.size m:=heap_alloc_new w _
  obtain⟨c0,c1,c2⟩:=cells3 gq
  have HH:Hid _:=E0
  clear E0 gq hM
  go_in
  go_wp2_with (go_at_call 122;go_in)
  generalize w.alloc (.cells #[rV m.x,rV m.y,rV m.w] 84)=w0 at *
  clear c0 c1 c2
  have E0:=HH.out
  clear HH
  refine (GL mb _ s i m.w w0 E0.2 (hroom.mono (by omega)) h8.2.2).mono ?_
  rintro e w1 ⟨rfl,k1⟩
  have HE:Hid _:=ah.trans E0 k1
  clear k1 E0
  go_wp2
  go_ret
  exact⟨rfl,HE.out⟩
theorem U6 (mb:Nat) (L:List Stp) (s i:Nat) (m:Tr) (w:World) (hM:dS w mb L s i) (hroom:Room L s 4) (h8:S8 m):Calls Tryz.prog 92 #[mP mb,S [112,116],dZ m] w fun e w'=>e=.returned (rV s)/\ah w w' mb (L++[⟨5,s,m.w,0⟩]) (s+1) i:=yc _ (.inl rfl) mb L s i m w hM hroom h8
theorem QX (mb:Nat) (L:List Stp) (s i:Nat) (m:Tr) (w:World) (hM:dS w mb L s i) (hroom:Room L s 4) (h8:S8 m):Calls Tryz.prog 92 #[mP mb,S [109,105,100],dZ m] w fun e w'=>e=.returned (rV s)/\ah w w' mb (L++[⟨5,s,m.w,0⟩]) (s+1) i:=yc _ (.inr (.inl rfl)) mb L s i m w hM hroom h8
theorem Nu (mb:Nat) (L:List Stp) (s i:Nat) (m:Tr) (w:World) (hM:dS w mb L s i) (hroom:Room L s 4) (h8:S8 m):Calls Tryz.prog 92 #[mP mb,S [109,101,101,116],dZ m] w fun e w'=>e=.returned (rV s)/\ah w w' mb (L++[⟨5,s,m.w,0⟩]) (s+1) i:=yc _ (.inr (.inr (.inl rfl))) mb L s i m w hM hroom h8
theorem Ns (mb:Nat) (L:List Stp) (s i:Nat) (m:Tr) (w:World) (hM:dS w mb L s i) (hroom:Room L s 4) (h8:S8 m):Calls Tryz.prog 92 #[mP mb,S [102,111,111,116],dZ m] w fun e w'=>e=.returned (rV s)/\ah w w' mb (L++[⟨5,s,m.w,0⟩]) (s+1) i:=yc _ (.inr (.inr (.inr (.inl rfl)))) mb L s i m w hM hroom h8
theorem Gy (mb:Nat) (L:List Stp) (s i:Nat) (m:Tr) (w:World) (hM:dS w mb L s i) (hroom:Room L s 4) (h8:S8 m):Calls Tryz.prog 92 #[mP mb,S [109,105,114,114,111,114],dZ m] w fun e w'=>e=.returned (rV s)/\ah w w' mb (L++[⟨5,s,m.w,0⟩]) (s+1) i:=yc _ (.inr (.inr (.inr (.inr (.inl rfl))))) mb L s i m w hM hroom h8
theorem Gx (mb:Nat) (L:List Stp) (s i:Nat) (m:Tr) (w:World) (hM:dS w mb L s i) (hroom:Room L s 4) (h8:S8 m):Calls Tryz.prog 92 #[mP mb,S [99,101,110,116,114,101],dZ m] w fun e w'=>e=.returned (rV s)/\ah w w' mb (L++[⟨5,s,m.w,0⟩]) (s+1) i:=yc _ (.inr (.inr (.inr (.inr (.inr (rfl)))))) mb L s i m w hM hroom h8
theorem JN (wd:List UInt8) (hw:wd=[108,105,110,101]\/wd=[112,97,114]\/wd=[112,101,114,112]) (mb:Nat) (L:List Stp) (s i:Nat) (m:Tr) (w:World) (hM:dS w mb L s i) (hroom:Room L s 4) (_h8:S8 m) :
  Calls Tryz.prog 92 #[mP mb,S wd,dZ m] w fun e w'=>e=.returned (rV s)/\ah w w' mb (L++[⟨1,s,1,0⟩]) (s+1) i:=by
 rcases hw with rfl | rfl | rfl
 all_goals
  have E0:ah w (w.alloc (aS m)) mb L s i:=ah.al (show ah w w mb L s i from ⟨Kp.refl mb w,hM⟩) _
  have gq:kT (w.alloc (aS m)) w.heap.size m:=heap_alloc_new w _
  obtain⟨c0,c1,c2⟩:=cells3 gq
  have HH:Hid _:=E0
  clear E0 gq hM
  go_in
  go_wp2_with (go_at_call 122;go_in)
  generalize w.alloc (.cells #[rV m.x,rV m.y,rV m.w] 84)=w0 at *
  clear c0 c1 c2
  have E0:=HH.out
  clear HH
  refine (wD mb _ s i 1 w0 E0.2 (hroom.mono (by omega)) (by omega)).mono ?_
  rintro e w1 ⟨rfl,k1⟩
  have HE:Hid _:=ah.trans E0 k1
  clear k1 E0
  go_wp2
  go_ret
  exact⟨rfl,HE.out⟩
theorem Nt (mb:Nat) (L:List Stp) (s i:Nat) (m:Tr) (w:World) (hM:dS w mb L s i) (hroom:Room L s 4) (_h8:S8 m):Calls Tryz.prog 92 #[mP mb,S [108,105,110,101],dZ m] w fun e w'=>e=.returned (rV s)/\ah w w' mb (L++[⟨1,s,1,0⟩]) (s+1) i:=JN _ (.inl rfl) mb L s i m w hM hroom _h8
theorem QY (mb:Nat) (L:List Stp) (s i:Nat) (m:Tr) (w:World) (hM:dS w mb L s i) (hroom:Room L s 4) (_h8:S8 m):Calls Tryz.prog 92 #[mP mb,S [112,97,114],dZ m] w fun e w'=>e=.returned (rV s)/\ah w w' mb (L++[⟨1,s,1,0⟩]) (s+1) i:=JN _ (.inr (.inl rfl)) mb L s i m w hM hroom _h8
theorem Nv (mb:Nat) (L:List Stp) (s i:Nat) (m:Tr) (w:World) (hM:dS w mb L s i) (hroom:Room L s 4) (_h8:S8 m):Calls Tryz.prog 92 #[mP mb,S [112,101,114,112],dZ m] w fun e w'=>e=.returned (rV s)/\ah w w' mb (L++[⟨1,s,1,0⟩]) (s+1) i:=JN _ (.inr (.inr (rfl))) mb L s i m w hM hroom _h8
theorem ni (wd:List UInt8) (t:Stp) (mb:Nat) (L K:List Stp) (s i:Nat) (m:Tr) (k:Nat) (w:World) (hM:dS w mb L s i) (hroom:Room L s 4) (h8:S8 m) (hk:k < 16) (hf:∀ W,dS W mb L s i->Calls Tryz.prog 92 #[mP mb,S wd,dZ m] W fun e w'=>e=.returned (rV s)/\ah W w' mb (L++[t]) (s+1) i) (hK:K=[t,⟨4,(hm k).x,m.x,s⟩,⟨4,(hm k).y,m.y,s⟩,⟨4,(hm k).w,m.w,s⟩]) :
  Calls Tryz.prog 52 #[mP mb,S wd,dZ m,.int .i64 k] w fun e w'=>e=.returned (.tuple #[])/\ah w w' mb (L++K) (s+1) i:=by
 have hL:L++K=L++[t]++[⟨4,(hm k).x,m.x,s⟩]++[⟨4,(hm k).y,m.y,s⟩]++[⟨4,(hm k).w,m.w,s⟩]:=by simp[hK]
 have HL:Hid _:=hL
 clear hL hK
 have r1:=hroom.1
 have r2:=hroom.2
 have E0:ah w (w.alloc (aS m)) mb L s i:=ah.al (show ah w w mb L s i from ⟨Kp.refl mb w,hM⟩) _
 have gq:kT (w.alloc (aS m)) w.heap.size m:=heap_alloc_new w _
 have HH:Hid _:=zI E0 gq
 clear E0 gq hM
 go_in
 go_wp2_with fail
 generalize w.alloc (.cells #[rV m.x,rV m.y,rV m.w] 84)=w0 at *
 obtain⟨E0,gq⟩:=HH.out
 clear HH
 refine (rY k hk w0).mono ?_
 rintro e w1 ⟨rfl,k1⟩
 have E1:=ah.al (E0.md k1) (.cells #[rV (hm k).x,rV (hm k).y,rV (hm k).w] 84)
 have zK:kT (w1.alloc (.cells #[rV (hm k).x,rV (hm k).y,rV (hm k).w] 84)) w1.heap.size (hm k):=heap_alloc_new w1 _
 replace gq:=aB.al (aB.md gq k1) (.cells #[rV (hm k).x,rV (hm k).y,rV (hm k).w] 84)
 obtain⟨q0,q1,q2⟩:=cells3 gq
 have HH:Hid _:=zI E1 (zI gq zK)
 clear k1 E0 E1 gq zK
 go_wp2_with fail
 generalize w1.alloc (.cells #[rV (hm k).x,rV (hm k).y,rV (hm k).w] 84)=IL at *
 clear q0 q1 q2
 obtain⟨E1,gq,zK⟩:=HH.out
 clear HH
 refine (hf _ E1.2).mono ?_
 rintro e w2 ⟨rfl,k2⟩
 have E2:ah w w2 mb (L++[t]) (s+1) i:=ah.trans E1 k2
 replace gq:=aB.kp gq k2.1
 replace zK:=aB.kp zK k2.1
 clear k2 E1
 obtain⟨q0,q1,q2⟩:=cells3 gq
 obtain⟨p0,p1,p2⟩:=cells3 zK
 have HH:Hid _:=zI E2 (zI gq zK)
 clear E2 gq zK
 go_wp2_with fail
 clear q0 q1 q2 p0 p1 p2
 obtain⟨E2,gq,zK⟩:=HH.out
 clear HH
 refine (lV mb _ (s+1) i ⟨4,(hm k).x,m.x,s⟩ w2 E2.2 (by simp;omega) ⟨by show 4 < 256;omega,by show 3*k < 256;omega,h8.1,by show s < 256;omega⟩).mono ?_
 rintro e w3 ⟨rfl,k3,m3⟩
 have E3:ah w w3 mb (L++[t]++[⟨4,(hm k).x,m.x,s⟩]) (s+1) i:=ah.trans E2 (show ah w2 w3 mb _ (s+1) i from ⟨k3,m3⟩)
 replace gq:=aB.kp gq k3
 replace zK:=aB.kp zK k3
 clear k3 m3 E2
 obtain⟨q0,q1,q2⟩:=cells3 gq
 obtain⟨p0,p1,p2⟩:=cells3 zK
 have HH:Hid _:=zI E3 (zI gq zK)
 clear E3 gq zK
 go_wp2_with fail
 clear q0 q1 q2 p0 p1 p2
 obtain⟨E3,gq,zK⟩:=HH.out
 clear HH
 refine (lV mb _ (s+1) i ⟨4,(hm k).y,m.y,s⟩ w3 E3.2 (by simp;omega) ⟨by show 4 < 256;omega,by show 3*k+1 < 256;omega,h8.2.1,by show s < 256;omega⟩).mono ?_
 rintro e w4 ⟨rfl,k4,m4⟩
 have E4:ah w w4 mb (L++[t]++[⟨4,(hm k).x,m.x,s⟩]++[⟨4,(hm k).y,m.y,s⟩]) (s+1) i:=ah.trans E3 (show ah w3 w4 mb _ (s+1) i from ⟨k4,m4⟩)
 replace gq:=aB.kp gq k4
 replace zK:=aB.kp zK k4
 clear k4 m4 E3
 obtain⟨q0,q1,q2⟩:=cells3 gq
 obtain⟨p0,p1,p2⟩:=cells3 zK
 have HH:Hid _:=zI E4 (zI gq zK)
 clear E4 gq zK
 go_wp2_with fail
 clear q0 q1 q2 p0 p1 p2
 obtain⟨E4,gq,zK⟩:=HH.out
 clear HH
 refine (lV mb _ (s+1) i ⟨4,(hm k).w,m.w,s⟩ w4 E4.2 (by simp;omega) ⟨by show 4 < 256;omega,by show 3*k+2 < 256;omega,h8.2.2,by show s < 256;omega⟩).mono ?_
 rintro e w5 ⟨rfl,k5,m5⟩
 have E5:ah w w5 mb (L++[t]++[⟨4,(hm k).x,m.x,s⟩]++[⟨4,(hm k).y,m.y,s⟩]++[⟨4,(hm k).w,m.w,s⟩]) (s+1) i:=ah.trans E4 (show ah w4 w5 mb _ (s+1) i from ⟨k5,m5⟩)
 replace gq:=aB.kp gq k5
 replace zK:=aB.kp zK k5
 clear k5 m5 E4
 have HE:Hid _:=E5
 clear E5 gq zK
 go_wp2
 exact bodyPost_end (v:=.tuple #[]) (by simp[results,Tryz.results52]) rfl ⟨rfl,by rw[HL.out];exact HE.out⟩
theorem Rf (mb:Nat) (L:List Stp) (s i:Nat) (m:Tr) (k:Nat) (w:World) (hM:dS w mb L s i) (hroom:Room L s 4) (h8:S8 m) (hk:k < 16):Calls Tryz.prog 52 #[mP mb,S [112,116],dZ m,.int .i64 k] w fun e w'=>e=.returned (.tuple #[])/\ah w w' mb (L++Am s m k) (s+1) i:=ni _ _ mb L _ s i m k w hM hroom h8 hk (fun W h=>U6 mb L s i m W h hroom h8) rfl
theorem NG (mb:Nat) (L:List Stp) (s i:Nat) (m:Tr) (k:Nat) (w:World) (hM:dS w mb L s i) (hroom:Room L s 4) (h8:S8 m) (hk:k < 16):Calls Tryz.prog 52 #[mP mb,S [109,105,100],dZ m,.int .i64 k] w fun e w'=>e=.returned (.tuple #[])/\ah w w' mb (L++Am s m k) (s+1) i:=ni _ _ mb L _ s i m k w hM hroom h8 hk (fun W h=>QX mb L s i m W h hroom h8) rfl
theorem JU (mb:Nat) (L:List Stp) (s i:Nat) (m:Tr) (k:Nat) (w:World) (hM:dS w mb L s i) (hroom:Room L s 4) (h8:S8 m) (hk:k < 16):Calls Tryz.prog 52 #[mP mb,S [109,101,101,116],dZ m,.int .i64 k] w fun e w'=>e=.returned (.tuple #[])/\ah w w' mb (L++Am s m k) (s+1) i:=ni _ _ mb L _ s i m k w hM hroom h8 hk (fun W h=>Nu mb L s i m W h hroom h8) rfl
theorem JQ (mb:Nat) (L:List Stp) (s i:Nat) (m:Tr) (k:Nat) (w:World) (hM:dS w mb L s i) (hroom:Room L s 4) (h8:S8 m) (hk:k < 16):Calls Tryz.prog 52 #[mP mb,S [102,111,111,116],dZ m,.int .i64 k] w fun e w'=>e=.returned (.tuple #[])/\ah w w' mb (L++Am s m k) (s+1) i:=ni _ _ mb L _ s i m k w hM hroom h8 hk (fun W h=>Ns mb L s i m W h hroom h8) rfl
theorem Ej (mb:Nat) (L:List Stp) (s i:Nat) (m:Tr) (k:Nat) (w:World) (hM:dS w mb L s i) (hroom:Room L s 4) (h8:S8 m) (hk:k < 16):Calls Tryz.prog 52 #[mP mb,S [109,105,114,114,111,114],dZ m,.int .i64 k] w fun e w'=>e=.returned (.tuple #[])/\ah w w' mb (L++Am s m k) (s+1) i:=ni _ _ mb L _ s i m k w hM hroom h8 hk (fun W h=>Gy mb L s i m W h hroom h8) rfl
theorem Ei (mb:Nat) (L:List Stp) (s i:Nat) (m:Tr) (k:Nat) (w:World) (hM:dS w mb L s i) (hroom:Room L s 4) (h8:S8 m) (hk:k < 16):Calls Tryz.prog 52 #[mP mb,S [99,101,110,116,114,101],dZ m,.int .i64 k] w fun e w'=>e=.returned (.tuple #[])/\ah w w' mb (L++Am s m k) (s+1) i:=ni _ _ mb L _ s i m k w hM hroom h8 hk (fun W h=>Gx mb L s i m W h hroom h8) rfl
theorem JR (mb:Nat) (L:List Stp) (s i:Nat) (m:Tr) (k:Nat) (w:World) (hM:dS w mb L s i) (hroom:Room L s 4) (h8:S8 m) (hk:k < 16):Calls Tryz.prog 52 #[mP mb,S [108,105,110,101],dZ m,.int .i64 k] w fun e w'=>e=.returned (.tuple #[])/\ah w w' mb (L++OP s m k) (s+1) i:=ni _ _ mb L _ s i m k w hM hroom h8 hk (fun W h=>Nt mb L s i m W h hroom h8) rfl
theorem NH (mb:Nat) (L:List Stp) (s i:Nat) (m:Tr) (k:Nat) (w:World) (hM:dS w mb L s i) (hroom:Room L s 4) (h8:S8 m) (hk:k < 16):Calls Tryz.prog 52 #[mP mb,S [112,97,114],dZ m,.int .i64 k] w fun e w'=>e=.returned (.tuple #[])/\ah w w' mb (L++OP s m k) (s+1) i:=ni _ _ mb L _ s i m k w hM hroom h8 hk (fun W h=>QY mb L s i m W h hroom h8) rfl
theorem JV (mb:Nat) (L:List Stp) (s i:Nat) (m:Tr) (k:Nat) (w:World) (hM:dS w mb L s i) (hroom:Room L s 4) (h8:S8 m) (hk:k < 16):Calls Tryz.prog 52 #[mP mb,S [112,101,114,112],dZ m,.int .i64 k] w fun e w'=>e=.returned (.tuple #[])/\ah w w' mb (L++OP s m k) (s+1) i:=ni _ _ mb L _ s i m k w hM hroom h8 hk (fun W h=>Nv mb L s i m W h hroom h8) rfl
abbrev Xf (t:Th):Array Value:=#[rV t.a.x,rV t.a.y,rV t.a.w,rV t.b.x,rV t.b.y,rV t.b.w,rV t.c.x,rV t.c.y,rV t.c.w,rV t.d.x,rV t.d.y,rV t.d.w]
theorem Tryz.infoTh:(Tryz.prog.info? 86).map (·.size)=some 12:=by kernel_rfl
theorem Zh (t:Th):(Xf t).all (·.oneCell')=true:=by simp[Xf,Value.oneCell']
def tz:Tr:=⟨0,0,0⟩
def V9:Th:=⟨tz,tz,tz,tz⟩
def Dq (l:List St) (x:St) (k:Nat):Th:=⟨if 0 < k then E9 l x 0 else tz,if 1 < k then E9 l x 1 else tz,if 2 < k then E9 l x 2 else tz,if 3 < k then E9 l x 3 else tz⟩
theorem V8 (l:List St) (x:St):Dq l x x.args.length=uJ l x:=by
 have key:∀ j,(if j < x.args.length then E9 l x j else tz)=E9 l x j:=fun j=>by
  unfold E9 tz
  split<;>rfl
 unfold Dq uJ
 rw[key,key,key,key]
theorem OL {w:World} {k:Nat} {t:Th} (h:iC w k t) (i:Nat):w.frozen? ⟨k,i,none⟩=false:=by unfold iC at h;simp[World.frozen?,h]
def uQ (w:World) (b o:Nat) (x y z:Value):World:=((w.setCell ⟨b,o,none⟩ x).setCell ⟨b,o+1,none⟩ y).setCell ⟨b,o+2,none⟩ z
theorem qA (w:World) (b o:Nat) (x y z:Value):Mod (fun q=>q=b) w (uQ w b o x y z):=by
 have h0:Mod (fun q=>q=b) w (w.setCell ⟨b,o,none⟩ x):=(Mod.refl _ w).setCell ⟨b,o,none⟩ x (fun _=>rfl)
 have h1:=h0.setCell ⟨b,o+1,none⟩ y (fun _=>rfl)
 exact h1.setCell ⟨b,o+2,none⟩ z (fun _=>rfl)
theorem tZ {a w:World} (h:Mod (fun _=>False) a w) (b o:Nat) (x y z:Value) (hb:a.heap.size<=b):Mod (fun _=>False) a (uQ w b o x y z):=by
 have:=(h.mono (q:=fun q=>q=b) (fun _ _ f=>f.elim)).trans (qA w b o x y z)
 exact this.mono (fun k hk e=>by omega)
theorem mF {w:World} {b:Nat} {C:Array Value} {ty:TypeId} (i:Nat) (v:Value) (h:w.heap[b]?=some (.cells C ty (0,0))):(w.setCell ⟨b,i,none⟩ v).heap[b]?=some (.cells (C.setIfInBounds i v) ty (0,0)):=by
 simp[World.setCell,Array.getElem?_modify,h]
theorem iC.set0 {w:World} {b:Nat} {t:Th} (h:iC w b t) (u:Tr):iC (uQ w b 0 (rV u.x) (rV u.y) (rV u.w)) b ⟨u,t.b,t.c,t.d⟩:=mF 2 _ (mF 1 _ (mF 0 _ h))
theorem iC.set1 {w:World} {b:Nat} {t:Th} (h:iC w b t) (u:Tr):iC (uQ w b 3 (rV u.x) (rV u.y) (rV u.w)) b ⟨t.a,u,t.c,t.d⟩:=mF 5 _ (mF 4 _ (mF 3 _ h))
theorem iC.set2 {w:World} {b:Nat} {t:Th} (h:iC w b t) (u:Tr):iC (uQ w b 6 (rV u.x) (rV u.y) (rV u.w)) b ⟨t.a,t.b,u,t.d⟩:=mF 8 _ (mF 7 _ (mF 6 _ h))
theorem iC.gL {w:World} {b:Nat} {t:Th} (h:iC w b t) (u:Tr):iC (uQ w b 9 (rV u.x) (rV u.y) (rV u.w)) b ⟨t.a,t.b,t.c,u⟩:=mF 11 _ (mF 10 _ (mF 9 _ h))
theorem I6 (v:Value) (q:List It) (base:Nat) (x:St) (av:Value) (wt:Int) (w:World) (hq:q.length<=16) (hal:x.args.length<=4) (hL:vM w base v q) (hA:w.ownsRow base 5 1 av x.args.length (bvs x.args))
  (hg:∀ i (hi:i < x.args.length),∃ k,k < 16/\gN (q.map It.x) x.args[i].toNat=((k:Nat):Int)) :
  Calls Tryz.prog 46 #[v,XC x.name x.word av wt] w fun e w'=>e=.returned (vI (uJ (q.map It.x) x))/\Mod (fun _=>False) w w':=by
 have K4:=sK hA
 obtain⟨aa,aK,rfl,-⟩:=aj hA
 have HG:Hid (∀ i (hi:i < x.args.length),∃ k,k < 16/\gN (q.map It.x) x.args[i].toNat=((k:Nat):Int)):=hg
 have HK:Hid (Dq (q.map It.x) x x.args.length=uJ (q.map It.x) x):=V8 _ _
 clear hg
 have hm0:Mod (fun _=>False) w (((w.alloc (.cells #[.int .u8 x.name,S x.word,.slice aa x.args.length aK,.int .i64 wt] 72)).alloc (.cells #[.int .u8 0,.int .u8 0,.int .u8 0,.int .u8 0,.int .u8 0,.int .u8 0,.int .u8 0,.int .u8 0,.int .u8 0,.int .u8 0,.int .u8 0,.int .u8 0] 86)).alloc (.cells #[.int .u8 0,.int .u8 0,.int .u8 0,.int .u8 0,.int .u8 0,.int .u8 0,.int .u8 0,.int .u8 0,.int .u8 0,.int .u8 0,.int .u8 0,.int .u8 0] 86)):=(((Mod.refl _ w).alloc _).alloc _).alloc _
 have ow:iC (((w.alloc (.cells #[.int .u8 x.name,S x.word,.slice aa x.args.length aK,.int .i64 wt] 72)).alloc (.cells #[.int .u8 0,.int .u8 0,.int .u8 0,.int .u8 0,.int .u8 0,.int .u8 0,.int .u8 0,.int .u8 0,.int .u8 0,.int .u8 0,.int .u8 0,.int .u8 0] 86)).alloc (.cells #[.int .u8 0,.int .u8 0,.int .u8 0,.int .u8 0,.int .u8 0,.int .u8 0,.int .u8 0,.int .u8 0,.int .u8 0,.int .u8 0,.int .u8 0,.int .u8 0] 86)) (w.heap.size+1) V9:=by
  have h:=heap_alloc_new (w.alloc (.cells #[.int .u8 x.name,S x.word,.slice aa x.args.length aK,.int .i64 wt] 72)) (.cells #[.int .u8 0,.int .u8 0,.int .u8 0,.int .u8 0,.int .u8 0,.int .u8 0,.int .u8 0,.int .u8 0,.int .u8 0,.int .u8 0,.int .u8 0,.int .u8 0] 86)
  simp only[bG]at h
  exact iC.al (t:=V9) h _
 have bE:iC (((w.alloc (.cells #[.int .u8 x.name,S x.word,.slice aa x.args.length aK,.int .i64 wt] 72)).alloc (.cells #[.int .u8 0,.int .u8 0,.int .u8 0,.int .u8 0,.int .u8 0,.int .u8 0,.int .u8 0,.int .u8 0,.int .u8 0,.int .u8 0,.int .u8 0,.int .u8 0] 86)).alloc (.cells #[.int .u8 0,.int .u8 0,.int .u8 0,.int .u8 0,.int .u8 0,.int .u8 0,.int .u8 0,.int .u8 0,.int .u8 0,.int .u8 0,.int .u8 0,.int .u8 0] 86)) (w.heap.size+1+1) V9:=by
  have h:=heap_alloc_new ((w.alloc (.cells #[.int .u8 x.name,S x.word,.slice aa x.args.length aK,.int .i64 wt] 72)).alloc (.cells #[.int .u8 0,.int .u8 0,.int .u8 0,.int .u8 0,.int .u8 0,.int .u8 0,.int .u8 0,.int .u8 0,.int .u8 0,.int .u8 0,.int .u8 0,.int .u8 0] 86)) (.cells #[.int .u8 0,.int .u8 0,.int .u8 0,.int .u8 0,.int .u8 0,.int .u8 0,.int .u8 0,.int .u8 0,.int .u8 0,.int .u8 0,.int .u8 0,.int .u8 0] 86)
  simp only[bG]at h
  exact h
 have HH:Hid _:=zI hm0 (zI ow bE)
 clear hm0 ow bE
 go_in
 go_wp2_with fail
 generalize ((w.alloc (.cells #[.int .u8 x.name,S x.word,.slice aa x.args.length aK,.int .i64 wt] 72)).alloc (.cells #[.int .u8 0,.int .u8 0,.int .u8 0,.int .u8 0,.int .u8 0,.int .u8 0,.int .u8 0,.int .u8 0,.int .u8 0,.int .u8 0,.int .u8 0,.int .u8 0] 86)).alloc (.cells #[.int .u8 0,.int .u8 0,.int .u8 0,.int .u8 0,.int .u8 0,.int .u8 0,.int .u8 0,.int .u8 0,.int .u8 0,.int .u8 0,.int .u8 0,.int .u8 0] 86)=w0 at *
 obtain⟨hm0,ow,bE⟩:=HH.out
 clear HH
 go_loopw [12] (fun i wr=>∃ k:Nat,k<=x.args.length/\i=.int .i64 k/\Mod (fun _=>False) w wr/\iC wr (w.heap.size+1) V9/\iC wr (w.heap.size+1+1) (Dq (q.map It.x) x k)) (fun i _=>x.args.length - (intOf i).toNat)
 case atStart=>exact⟨0,by omega,rfl,hm0,ow,bE⟩
 case round =>
  clear hm0 ow bE
  obtain⟨k,hk,rfl,hmd,ow,bE⟩:=hrel
  by_cases hlt:k < x.args.length
  ·have qH:=hL.mod hmd (fun _ _ _ f=>f)
   have hAr:=au hA hmd (fun _ _ f=>f)
   obtain⟨gb,rfl,ck⟩:=tK hAr rfl hlt
   obtain⟨j,hj,hgj⟩:=HG.out k hlt
   have hj1:((j:Int) == -1)=false:=by rw[beq_eq_false_iff_ne];omega
   have hj2:((j:Int) != -1)=true:=by rw[bne_iff_ne];omega
   have hgv:=lG v q x.args[k].toNat base wr (by omega) qH
   rw[hgj]at hgv
   have HJ:Hid (E9 (q.map It.x) x k=hm j):=show E9 (q.map It.x) x k=hm j by
    unfold E9 ix ag
    rw[if_pos hlt,List.getElem?_eq_getElem hlt,Option.getD_some,hgj];rfl
   clear hgj qH hAr
   have hk4:k < 4:=by omega
   have HH:Hid _:=zI hmd (zI ow bE)
   clear hmd ow bE
   rcases (show k=0\/k=1\/k=2\/k=3 by omega) with rfl | rfl | rfl | rfl
   ·go_wp2_with fail
    refine hgv.mono ?_
    rintro e w2 ⟨rfl,rfl⟩
    clear hgv
    go_wp2_with fail
    obtain⟨hmd,ow,bE⟩:=HH.out
    clear HH
    refine (rY j hj wr).mono ?_
    rintro e w3 ⟨rfl,k3⟩
    have aC:=hmd.trans k3
    replace ow:=iC.md ow k3
    replace bE:=iC.md bE k3
    obtain⟨c0,c1,c2,c3,c4,c5,c6,c7,c8,c9,c10,c11⟩:=bE.cs
    have z0:=OL bE 0
    have z1:=OL bE 1
    have z2:=OL bE 2
    have nK:=iC.set0 bE (hm j)
    have Yk:(⟨hm j,(Dq (q.map It.x) x 0).b,(Dq (q.map It.x) x 0).c,(Dq (q.map It.x) x 0).d⟩:Th)=Dq (q.map It.x) x 1:=by rw[<- HJ.out];rfl
    rw[Yk]at nK
    have pY:iC (uQ w3 (w.heap.size+1+1) 0 (rV (hm j).x) (rV (hm j).y) (rV (hm j).w)) (w.heap.size+1) V9:=(qA w3 (w.heap.size+1+1) 0 (rV (hm j).x) (rV (hm j).y) (rV (hm j).w)).keep ow (by omega)
    have aO:=tZ aC (w.heap.size+1+1) 0 (rV (hm j).x) (rV (hm j).y) (rV (hm j).w) (by omega)
    have HX:Hid _:=zI aO (zI pY nK)
    clear hmd aC k3 ow bE aO pY nK
    go_wp2
    go_roundw
    case rel=>exact⟨1,by omega,by go_num,HX.out.1,HX.out.2.1,HX.out.2.2⟩
    case measure=>simp[intOf];omega
   ·go_wp2_with fail
    refine hgv.mono ?_
    rintro e w2 ⟨rfl,rfl⟩
    clear hgv
    go_wp2_with fail
    obtain⟨hmd,ow,bE⟩:=HH.out
    clear HH
    refine (rY j hj wr).mono ?_
    rintro e w3 ⟨rfl,k3⟩
    have aC:=hmd.trans k3
    replace ow:=iC.md ow k3
    replace bE:=iC.md bE k3
    obtain⟨c0,c1,c2,c3,c4,c5,c6,c7,c8,c9,c10,c11⟩:=bE.cs
    have z0:=OL bE 3
    have z1:=OL bE 4
    have z2:=OL bE 5
    have nK:=iC.set1 bE (hm j)
    have Yk:(⟨(Dq (q.map It.x) x 1).a,hm j,(Dq (q.map It.x) x 1).c,(Dq (q.map It.x) x 1).d⟩:Th)=Dq (q.map It.x) x 2:=by rw[<- HJ.out];rfl
    rw[Yk]at nK
    have pY:iC (uQ w3 (w.heap.size+1+1) 3 (rV (hm j).x) (rV (hm j).y) (rV (hm j).w)) (w.heap.size+1) V9:=(qA w3 (w.heap.size+1+1) 3 (rV (hm j).x) (rV (hm j).y) (rV (hm j).w)).keep ow (by omega)
    have aO:=tZ aC (w.heap.size+1+1) 3 (rV (hm j).x) (rV (hm j).y) (rV (hm j).w) (by omega)
    have HX:Hid _:=zI aO (zI pY nK)
    clear hmd aC k3 ow bE aO pY nK
    go_wp2
    go_roundw
    case rel=>exact⟨2,by omega,by go_num,HX.out.1,HX.out.2.1,HX.out.2.2⟩
    case measure=>simp[intOf];omega
   ·go_wp2_with fail
    refine hgv.mono ?_
    rintro e w2 ⟨rfl,rfl⟩
    clear hgv
    go_wp2_with fail
    obtain⟨hmd,ow,bE⟩:=HH.out
    clear HH
    refine (rY j hj wr).mono ?_
    rintro e w3 ⟨rfl,k3⟩
    have aC:=hmd.trans k3
    replace ow:=iC.md ow k3
    replace bE:=iC.md bE k3
    obtain⟨c0,c1,c2,c3,c4,c5,c6,c7,c8,c9,c10,c11⟩:=bE.cs
    have z0:=OL bE 6
    have z1:=OL bE 7
    have z2:=OL bE 8
    have nK:=iC.set2 bE (hm j)
    have Yk:(⟨(Dq (q.map It.x) x 2).a,(Dq (q.map It.x) x 2).b,hm j,(Dq (q.map It.x) x 2).d⟩:Th)=Dq (q.map It.x) x 3:=by rw[<- HJ.out];rfl
    rw[Yk]at nK
    have pY:iC (uQ w3 (w.heap.size+1+1) 6 (rV (hm j).x) (rV (hm j).y) (rV (hm j).w)) (w.heap.size+1) V9:=(qA w3 (w.heap.size+1+1) 6 (rV (hm j).x) (rV (hm j).y) (rV (hm j).w)).keep ow (by omega)
    have aO:=tZ aC (w.heap.size+1+1) 6 (rV (hm j).x) (rV (hm j).y) (rV (hm j).w) (by omega)
    have HX:Hid _:=zI aO (zI pY nK)
    clear hmd aC k3 ow bE aO pY nK
    go_wp2
    go_roundw
    case rel=>exact⟨3,by omega,by go_num,HX.out.1,HX.out.2.1,HX.out.2.2⟩
    case measure=>simp[intOf];omega
   ·go_wp2_with fail
    refine hgv.mono ?_
    rintro e w2 ⟨rfl,rfl⟩
    clear hgv
    go_wp2_with fail
    obtain⟨hmd,ow,bE⟩:=HH.out
    clear HH
    refine (rY j hj wr).mono ?_
    rintro e w3 ⟨rfl,k3⟩
    have aC:=hmd.trans k3
    replace ow:=iC.md ow k3
    replace bE:=iC.md bE k3
    obtain⟨c0,c1,c2,c3,c4,c5,c6,c7,c8,c9,c10,c11⟩:=bE.cs
    have z0:=OL bE 9
    have z1:=OL bE 10
    have z2:=OL bE 11
    have nK:=iC.gL bE (hm j)
    have Yk:(⟨(Dq (q.map It.x) x 3).a,(Dq (q.map It.x) x 3).b,(Dq (q.map It.x) x 3).c,hm j⟩:Th)=Dq (q.map It.x) x 4:=by rw[<- HJ.out];rfl
    rw[Yk]at nK
    have pY:iC (uQ w3 (w.heap.size+1+1) 9 (rV (hm j).x) (rV (hm j).y) (rV (hm j).w)) (w.heap.size+1) V9:=(qA w3 (w.heap.size+1+1) 9 (rV (hm j).x) (rV (hm j).y) (rV (hm j).w)).keep ow (by omega)
    have aO:=tZ aC (w.heap.size+1+1) 9 (rV (hm j).x) (rV (hm j).y) (rV (hm j).w) (by omega)
    have HX:Hid _:=zI aO (zI pY nK)
    clear hmd aC k3 ow bE aO pY nK
    go_wp2
    go_roundw
    case rel=>exact⟨4,by omega,by go_num,HX.out.1,HX.out.2.1,HX.out.2.2⟩
    case measure=>simp[intOf];omega
  ·have hks:k=x.args.length:=by omega
   subst hks
   rw[HK.out]at bE
   have TL:Hid _:=bE
   have Fa:Hid _:=ow
   have HM:Hid _:=oh (b:=w.heap.size+1) (C:=Xf (uJ (q.map It.x) x)) hmd (by omega)
   have HQ:Hid _:=run_loadVar_row (P:=Tryz.prog) _ _ _ 86 (Xf (uJ (q.map It.x) x)) (0,0) _ (qB (C':=Xf (uJ (q.map It.x) x)) ow) Tryz.underlying86 rfl Tryz.infoTh
   clear hmd ow bE
   go_wp2_with (first
    | (refine wpList_load_row rfl 86 _ rfl _ rfl (Xf (uJ (q.map It.x) x)) 86 (0,0) ?hb0 _ Tryz.underlying86 rfl Tryz.infoTh ?_;case hb0=>exact TL.out)
    | (refine wpList_store_row rfl 86 _ _ rfl _ (Xf V9) (Xf (uJ (q.map It.x) x)) 86 rfl rfl ?hb1 Tryz.infoTh rfl (Zh _) ?_;case hb1=>exact Fa.out))
   refine bodyPost_ret (v:=vI (uJ (q.map It.x) x)) ?_ rfl ⟨rfl,HM.out⟩
   rw[l9 Tryz.results46]
   simp[asAddr,Result.andThen,HQ.out,Act.put]
end Go.Proofs.YtmnfndpbblpjiabGreatDoor
