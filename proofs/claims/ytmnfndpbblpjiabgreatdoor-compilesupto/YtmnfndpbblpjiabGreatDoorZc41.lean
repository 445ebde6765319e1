/- The maker's keep, word by word. -/
import Derived.Test.YtmnfndpbblpjiabGreatDoorZc28
import Derived.Test.YtmnfndpbblpjiabGreatDoorZc32
import Derived.Test.YtmnfndpbblpjiabGreatDoorZc39
import Derived.Test.YtmnfndpbblpjiabGreatDoorZc40
namespace Go.Proofs.YtmnfndpbblpjiabGreatDoor
open Go.RowKit Pu
set_option maxHeartbeats 1600000 in
theorem mkeep_pt (mb : Nat) (L : List Stp) (s i : Nat) (m : Tr) (k : Nat) (w : World) (hM : Mkr w mb L s i) (hroom : Room L s 4) (h8 : S8 m) (hk : k < 16) :
  Calls Tryz.prog 52 #[mP mb,S [112,116],trV m,.int .i64 k] w fun e w' => e = .returned (.tuple #[]) ∧ MkEnd w w' mb (L ++ kpP s m k) (s + 1) i := by
 have r1 := hroom.1
 have r2 := hroom.2
 have E0 : MkEnd w (w.alloc (trO m)) mb L s i := MkEnd.al (show MkEnd w w mb L s i from ⟨Kp.refl mb w,hM⟩) _
 have f_m : AtT (w.alloc (trO m)) w.heap.size m := heap_alloc_new w _
 have HH : Hid _ := And.intro E0 f_m
 clear E0 f_m hM
 go_enter Tryz.func52,Tryz.ntmps52
 go_wp2_with fail
 generalize w.alloc (.cells #[rV m.x,rV m.y,rV m.w] 84) = w0 at *
 obtain ⟨E0,f_m⟩ := HH.out
 clear HH
 refine (home_any k hk w0).mono ?_
 rintro e w1 ⟨rfl,k1⟩
 have E1 := MkEnd.al (E0.md k1) (.cells #[rV (hm k).x,rV (hm k).y,rV (hm k).w] 84)
 have f_h : AtT (w1.alloc (.cells #[rV (hm k).x,rV (hm k).y,rV (hm k).w] 84)) w1.heap.size (hm k) := heap_alloc_new w1 _
 replace f_m := At3.al (At3.md f_m k1) (.cells #[rV (hm k).x,rV (hm k).y,rV (hm k).w] 84)
 obtain ⟨q0,q1,q2⟩ := cells3 f_m
 have HH : Hid _ := And.intro E1 (And.intro f_m f_h)
 clear k1 E0 E1 f_m f_h
 go_wp2_with fail
 generalize w1.alloc (.cells #[rV (hm k).x,rV (hm k).y,rV (hm k).w] 84) = w1b at *
 clear q0 q1 q2
 obtain ⟨E1,f_m,f_h⟩ := HH.out
 clear HH
 refine (mfac_pt mb _ s i m w1b E1.2 hroom h8).mono ?_
 rintro e w2 ⟨rfl,k2⟩
 have E2 : MkEnd w w2 mb (L ++ [⟨5,s,m.w,0⟩]) (s + 1) i := MkEnd.trans E1 k2
 replace f_m := At3.kp f_m k2.1
 replace f_h := At3.kp f_h k2.1
 clear k2 E1
 obtain ⟨q0,q1,q2⟩ := cells3 f_m
 obtain ⟨p0,p1,p2⟩ := cells3 f_h
 have HH : Hid _ := And.intro E2 (And.intro f_m f_h)
 clear E2 f_m f_h
 go_wp2_with fail
 clear q0 q1 q2 p0 p1 p2
 obtain ⟨E2,f_m,f_h⟩ := HH.out
 clear HH
 refine (madd_any mb _ (s + 1) i ⟨4,(hm k).x,m.x,s⟩ w2 E2.2 (by simp; omega) ⟨by show 4 < 256; omega,by show 3 * k < 256; omega,h8.1,by show s < 256; omega⟩).mono ?_
 rintro e w3 ⟨rfl,k3,m3⟩
 have E3 : MkEnd w w3 mb (L ++ [⟨5,s,m.w,0⟩] ++ [⟨4,(hm k).x,m.x,s⟩]) (s + 1) i := MkEnd.trans E2 (show MkEnd w2 w3 mb _ (s + 1) i from ⟨k3,m3⟩)
 replace f_m := At3.kp f_m k3
 replace f_h := At3.kp f_h k3
 clear k3 m3 E2
 obtain ⟨q0,q1,q2⟩ := cells3 f_m
 obtain ⟨p0,p1,p2⟩ := cells3 f_h
 have HH : Hid _ := And.intro E3 (And.intro f_m f_h)
 clear E3 f_m f_h
 go_wp2_with fail
 clear q0 q1 q2 p0 p1 p2
 obtain ⟨E3,f_m,f_h⟩ := HH.out
 clear HH
 refine (madd_any mb _ (s + 1) i ⟨4,(hm k).y,m.y,s⟩ w3 E3.2 (by simp; omega) ⟨by show 4 < 256; omega,by show 3 * k + 1 < 256; omega,h8.2.1,by show s < 256; omega⟩).mono ?_
 rintro e w4 ⟨rfl,k4,m4⟩
 have E4 : MkEnd w w4 mb (L ++ [⟨5,s,m.w,0⟩] ++ [⟨4,(hm k).x,m.x,s⟩] ++ [⟨4,(hm k).y,m.y,s⟩]) (s + 1) i := MkEnd.trans E3 (show MkEnd w3 w4 mb _ (s + 1) i from ⟨k4,m4⟩)
 replace f_m := At3.kp f_m k4
 replace f_h := At3.kp f_h k4
 clear k4 m4 E3
 obtain ⟨q0,q1,q2⟩ := cells3 f_m
 obtain ⟨p0,p1,p2⟩ := cells3 f_h
 have HH : Hid _ := And.intro E4 (And.intro f_m f_h)
 clear E4 f_m f_h
 go_wp2_with fail
 clear q0 q1 q2 p0 p1 p2
 obtain ⟨E4,f_m,f_h⟩ := HH.out
 clear HH
 refine (madd_any mb _ (s + 1) i ⟨4,(hm k).w,m.w,s⟩ w4 E4.2 (by simp; omega) ⟨by show 4 < 256; omega,by show 3 * k + 2 < 256; omega,h8.2.2,by show s < 256; omega⟩).mono ?_
 rintro e w5 ⟨rfl,k5,m5⟩
 have E5 : MkEnd w w5 mb (L ++ [⟨5,s,m.w,0⟩] ++ [⟨4,(hm k).x,m.x,s⟩] ++ [⟨4,(hm k).y,m.y,s⟩] ++ [⟨4,(hm k).w,m.w,s⟩]) (s + 1) i := MkEnd.trans E4 (show MkEnd w4 w5 mb _ (s + 1) i from ⟨k5,m5⟩)
 replace f_m := At3.kp f_m k5
 replace f_h := At3.kp f_h k5
 clear k5 m5 E4
 have HE : Hid _ := E5
 clear E5 f_m f_h
 go_wp2_with fail
 have hL : L ++ [⟨5,s,m.w,0⟩] ++ [⟨4,(hm k).x,m.x,s⟩] ++ [⟨4,(hm k).y,m.y,s⟩] ++ [⟨4,(hm k).w,m.w,s⟩] = L ++ kpP s m k := by
  simp only [List.append_assoc]
  rfl
 exact bodyPost_end (v := .tuple #[]) (by simp [results,Tryz.results52]) rfl ⟨rfl,by rw [← hL]; exact HE.out⟩
set_option maxHeartbeats 1600000 in
theorem mkeep_mid (mb : Nat) (L : List Stp) (s i : Nat) (m : Tr) (k : Nat) (w : World) (hM : Mkr w mb L s i) (hroom : Room L s 4) (h8 : S8 m) (hk : k < 16) :
  Calls Tryz.prog 52 #[mP mb,S [109,105,100],trV m,.int .i64 k] w fun e w' => e = .returned (.tuple #[]) ∧ MkEnd w w' mb (L ++ kpP s m k) (s + 1) i := by
 have r1 := hroom.1
 have r2 := hroom.2
 have E0 : MkEnd w (w.alloc (trO m)) mb L s i := MkEnd.al (show MkEnd w w mb L s i from ⟨Kp.refl mb w,hM⟩) _
 have f_m : AtT (w.alloc (trO m)) w.heap.size m := heap_alloc_new w _
 have HH : Hid _ := And.intro E0 f_m
 clear E0 f_m hM
 go_enter Tryz.func52,Tryz.ntmps52
 go_wp2_with fail
 generalize w.alloc (.cells #[rV m.x,rV m.y,rV m.w] 84) = w0 at *
 obtain ⟨E0,f_m⟩ := HH.out
 clear HH
 refine (home_any k hk w0).mono ?_
 rintro e w1 ⟨rfl,k1⟩
 have E1 := MkEnd.al (E0.md k1) (.cells #[rV (hm k).x,rV (hm k).y,rV (hm k).w] 84)
 have f_h : AtT (w1.alloc (.cells #[rV (hm k).x,rV (hm k).y,rV (hm k).w] 84)) w1.heap.size (hm k) := heap_alloc_new w1 _
 replace f_m := At3.al (At3.md f_m k1) (.cells #[rV (hm k).x,rV (hm k).y,rV (hm k).w] 84)
 obtain ⟨q0,q1,q2⟩ := cells3 f_m
 have HH : Hid _ := And.intro E1 (And.intro f_m f_h)
 clear k1 E0 E1 f_m f_h
 go_wp2_with fail
 generalize w1.alloc (.cells #[rV (hm k).x,rV (hm k).y,rV (hm k).w] 84) = w1b at *
 clear q0 q1 q2
 obtain ⟨E1,f_m,f_h⟩ := HH.out
 clear HH
 refine (mfac_mid mb _ s i m w1b E1.2 hroom h8).mono ?_
 rintro e w2 ⟨rfl,k2⟩
 have E2 : MkEnd w w2 mb (L ++ [⟨5,s,m.w,0⟩]) (s + 1) i := MkEnd.trans E1 k2
 replace f_m := At3.kp f_m k2.1
 replace f_h := At3.kp f_h k2.1
 clear k2 E1
 obtain ⟨q0,q1,q2⟩ := cells3 f_m
 obtain ⟨p0,p1,p2⟩ := cells3 f_h
 have HH : Hid _ := And.intro E2 (And.intro f_m f_h)
 clear E2 f_m f_h
 go_wp2_with fail
 clear q0 q1 q2 p0 p1 p2
 obtain ⟨E2,f_m,f_h⟩ := HH.out
 clear HH
 refine (madd_any mb _ (s + 1) i ⟨4,(hm k).x,m.x,s⟩ w2 E2.2 (by simp; omega) ⟨by show 4 < 256; omega,by show 3 * k < 256; omega,h8.1,by show s < 256; omega⟩).mono ?_
 rintro e w3 ⟨rfl,k3,m3⟩
 have E3 : MkEnd w w3 mb (L ++ [⟨5,s,m.w,0⟩] ++ [⟨4,(hm k).x,m.x,s⟩]) (s + 1) i := MkEnd.trans E2 (show MkEnd w2 w3 mb _ (s + 1) i from ⟨k3,m3⟩)
 replace f_m := At3.kp f_m k3
 replace f_h := At3.kp f_h k3
 clear k3 m3 E2
 obtain ⟨q0,q1,q2⟩ := cells3 f_m
 obtain ⟨p0,p1,p2⟩ := cells3 f_h
 have HH : Hid _ := And.intro E3 (And.intro f_m f_h)
 clear E3 f_m f_h
 go_wp2_with fail
 clear q0 q1 q2 p0 p1 p2
 obtain ⟨E3,f_m,f_h⟩ := HH.out
 clear HH
 refine (madd_any mb _ (s + 1) i ⟨4,(hm k).y,m.y,s⟩ w3 E3.2 (by simp; omega) ⟨by show 4 < 256; omega,by show 3 * k + 1 < 256; omega,h8.2.1,by show s < 256; omega⟩).mono ?_
 rintro e w4 ⟨rfl,k4,m4⟩
 have E4 : MkEnd w w4 mb (L ++ [⟨5,s,m.w,0⟩] ++ [⟨4,(hm k).x,m.x,s⟩] ++ [⟨4,(hm k).y,m.y,s⟩]) (s + 1) i := MkEnd.trans E3 (show MkEnd w3 w4 mb _ (s + 1) i from ⟨k4,m4⟩)
 replace f_m := At3.kp f_m k4
 replace f_h := At3.kp f_h k4
 clear k4 m4 E3
 obtain ⟨q0,q1,q2⟩ := cells3 f_m
 obtain ⟨p0,p1,p2⟩ := cells3 f_h
 have HH : Hid _ := And.intro E4 (And.intro f_m f_h)
 clear E4 f_m f_h
 go_wp2_with fail
 clear q0 q1 q2 p0 p1 p2
 obtain ⟨E4,f_m,f_h⟩ := HH.out
 clear HH
 refine (madd_any mb _ (s + 1) i ⟨4,(hm k).w,m.w,s⟩ w4 E4.2 (by simp; omega) ⟨by show 4 < 256; omega,by show 3 * k + 2 < 256; omega,h8.2.2,by show s < 256; omega⟩).mono ?_
 rintro e w5 ⟨rfl,k5,m5⟩
 have E5 : MkEnd w w5 mb (L ++ [⟨5,s,m.w,0⟩] ++ [⟨4,(hm k).x,m.x,s⟩] ++ [⟨4,(hm k).y,m.y,s⟩] ++ [⟨4,(hm k).w,m.w,s⟩]) (s + 1) i := MkEnd.trans E4 (show MkEnd w4 w5 mb _ (s + 1) i from ⟨k5,m5⟩)
 replace f_m := At3.kp f_m k5
 replace f_h := At3.kp f_h k5
 clear k5 m5 E4
 have HE : Hid _ := E5
 clear E5 f_m f_h
 go_wp2_with fail
 have hL : L ++ [⟨5,s,m.w,0⟩] ++ [⟨4,(hm k).x,m.x,s⟩] ++ [⟨4,(hm k).y,m.y,s⟩] ++ [⟨4,(hm k).w,m.w,s⟩] = L ++ kpP s m k := by
  simp only [List.append_assoc]
  rfl
 exact bodyPost_end (v := .tuple #[]) (by simp [results,Tryz.results52]) rfl ⟨rfl,by rw [← hL]; exact HE.out⟩
set_option maxHeartbeats 1600000 in
theorem mkeep_meet (mb : Nat) (L : List Stp) (s i : Nat) (m : Tr) (k : Nat) (w : World) (hM : Mkr w mb L s i) (hroom : Room L s 4) (h8 : S8 m) (hk : k < 16) :
  Calls Tryz.prog 52 #[mP mb,S [109,101,101,116],trV m,.int .i64 k] w fun e w' => e = .returned (.tuple #[]) ∧ MkEnd w w' mb (L ++ kpP s m k) (s + 1) i := by
 have r1 := hroom.1
 have r2 := hroom.2
 have E0 : MkEnd w (w.alloc (trO m)) mb L s i := MkEnd.al (show MkEnd w w mb L s i from ⟨Kp.refl mb w,hM⟩) _
 have f_m : AtT (w.alloc (trO m)) w.heap.size m := heap_alloc_new w _
 have HH : Hid _ := And.intro E0 f_m
 clear E0 f_m hM
 go_enter Tryz.func52,Tryz.ntmps52
 go_wp2_with fail
 generalize w.alloc (.cells #[rV m.x,rV m.y,rV m.w] 84) = w0 at *
 obtain ⟨E0,f_m⟩ := HH.out
 clear HH
 refine (home_any k hk w0).mono ?_
 rintro e w1 ⟨rfl,k1⟩
 have E1 := MkEnd.al (E0.md k1) (.cells #[rV (hm k).x,rV (hm k).y,rV (hm k).w] 84)
 have f_h : AtT (w1.alloc (.cells #[rV (hm k).x,rV (hm k).y,rV (hm k).w] 84)) w1.heap.size (hm k) := heap_alloc_new w1 _
 replace f_m := At3.al (At3.md f_m k1) (.cells #[rV (hm k).x,rV (hm k).y,rV (hm k).w] 84)
 obtain ⟨q0,q1,q2⟩ := cells3 f_m
 have HH : Hid _ := And.intro E1 (And.intro f_m f_h)
 clear k1 E0 E1 f_m f_h
 go_wp2_with fail
 generalize w1.alloc (.cells #[rV (hm k).x,rV (hm k).y,rV (hm k).w] 84) = w1b at *
 clear q0 q1 q2
 obtain ⟨E1,f_m,f_h⟩ := HH.out
 clear HH
 refine (mfac_meet mb _ s i m w1b E1.2 hroom h8).mono ?_
 rintro e w2 ⟨rfl,k2⟩
 have E2 : MkEnd w w2 mb (L ++ [⟨5,s,m.w,0⟩]) (s + 1) i := MkEnd.trans E1 k2
 replace f_m := At3.kp f_m k2.1
 replace f_h := At3.kp f_h k2.1
 clear k2 E1
 obtain ⟨q0,q1,q2⟩ := cells3 f_m
 obtain ⟨p0,p1,p2⟩ := cells3 f_h
 have HH : Hid _ := And.intro E2 (And.intro f_m f_h)
 clear E2 f_m f_h
 go_wp2_with fail
 clear q0 q1 q2 p0 p1 p2
 obtain ⟨E2,f_m,f_h⟩ := HH.out
 clear HH
 refine (madd_any mb _ (s + 1) i ⟨4,(hm k).x,m.x,s⟩ w2 E2.2 (by simp; omega) ⟨by show 4 < 256; omega,by show 3 * k < 256; omega,h8.1,by show s < 256; omega⟩).mono ?_
 rintro e w3 ⟨rfl,k3,m3⟩
 have E3 : MkEnd w w3 mb (L ++ [⟨5,s,m.w,0⟩] ++ [⟨4,(hm k).x,m.x,s⟩]) (s + 1) i := MkEnd.trans E2 (show MkEnd w2 w3 mb _ (s + 1) i from ⟨k3,m3⟩)
 replace f_m := At3.kp f_m k3
 replace f_h := At3.kp f_h k3
 clear k3 m3 E2
 obtain ⟨q0,q1,q2⟩ := cells3 f_m
 obtain ⟨p0,p1,p2⟩ := cells3 f_h
 have HH : Hid _ := And.intro E3 (And.intro f_m f_h)
 clear E3 f_m f_h
 go_wp2_with fail
 clear q0 q1 q2 p0 p1 p2
 obtain ⟨E3,f_m,f_h⟩ := HH.out
 clear HH
 refine (madd_any mb _ (s + 1) i ⟨4,(hm k).y,m.y,s⟩ w3 E3.2 (by simp; omega) ⟨by show 4 < 256; omega,by show 3 * k + 1 < 256; omega,h8.2.1,by show s < 256; omega⟩).mono ?_
 rintro e w4 ⟨rfl,k4,m4⟩
 have E4 : MkEnd w w4 mb (L ++ [⟨5,s,m.w,0⟩] ++ [⟨4,(hm k).x,m.x,s⟩] ++ [⟨4,(hm k).y,m.y,s⟩]) (s + 1) i := MkEnd.trans E3 (show MkEnd w3 w4 mb _ (s + 1) i from ⟨k4,m4⟩)
 replace f_m := At3.kp f_m k4
 replace f_h := At3.kp f_h k4
 clear k4 m4 E3
 obtain ⟨q0,q1,q2⟩ := cells3 f_m
 obtain ⟨p0,p1,p2⟩ := cells3 f_h
 have HH : Hid _ := And.intro E4 (And.intro f_m f_h)
 clear E4 f_m f_h
 go_wp2_with fail
 clear q0 q1 q2 p0 p1 p2
 obtain ⟨E4,f_m,f_h⟩ := HH.out
 clear HH
 refine (madd_any mb _ (s + 1) i ⟨4,(hm k).w,m.w,s⟩ w4 E4.2 (by simp; omega) ⟨by show 4 < 256; omega,by show 3 * k + 2 < 256; omega,h8.2.2,by show s < 256; omega⟩).mono ?_
 rintro e w5 ⟨rfl,k5,m5⟩
 have E5 : MkEnd w w5 mb (L ++ [⟨5,s,m.w,0⟩] ++ [⟨4,(hm k).x,m.x,s⟩] ++ [⟨4,(hm k).y,m.y,s⟩] ++ [⟨4,(hm k).w,m.w,s⟩]) (s + 1) i := MkEnd.trans E4 (show MkEnd w4 w5 mb _ (s + 1) i from ⟨k5,m5⟩)
 replace f_m := At3.kp f_m k5
 replace f_h := At3.kp f_h k5
 clear k5 m5 E4
 have HE : Hid _ := E5
 clear E5 f_m f_h
 go_wp2_with fail
 have hL : L ++ [⟨5,s,m.w,0⟩] ++ [⟨4,(hm k).x,m.x,s⟩] ++ [⟨4,(hm k).y,m.y,s⟩] ++ [⟨4,(hm k).w,m.w,s⟩] = L ++ kpP s m k := by
  simp only [List.append_assoc]
  rfl
 exact bodyPost_end (v := .tuple #[]) (by simp [results,Tryz.results52]) rfl ⟨rfl,by rw [← hL]; exact HE.out⟩
set_option maxHeartbeats 1600000 in
theorem mkeep_foot (mb : Nat) (L : List Stp) (s i : Nat) (m : Tr) (k : Nat) (w : World) (hM : Mkr w mb L s i) (hroom : Room L s 4) (h8 : S8 m) (hk : k < 16) :
  Calls Tryz.prog 52 #[mP mb,S [102,111,111,116],trV m,.int .i64 k] w fun e w' => e = .returned (.tuple #[]) ∧ MkEnd w w' mb (L ++ kpP s m k) (s + 1) i := by
 have r1 := hroom.1
 have r2 := hroom.2
 have E0 : MkEnd w (w.alloc (trO m)) mb L s i := MkEnd.al (show MkEnd w w mb L s i from ⟨Kp.refl mb w,hM⟩) _
 have f_m : AtT (w.alloc (trO m)) w.heap.size m := heap_alloc_new w _
 have HH : Hid _ := And.intro E0 f_m
 clear E0 f_m hM
 go_enter Tryz.func52,Tryz.ntmps52
 go_wp2_with fail
 generalize w.alloc (.cells #[rV m.x,rV m.y,rV m.w] 84) = w0 at *
 obtain ⟨E0,f_m⟩ := HH.out
 clear HH
 refine (home_any k hk w0).mono ?_
 rintro e w1 ⟨rfl,k1⟩
 have E1 := MkEnd.al (E0.md k1) (.cells #[rV (hm k).x,rV (hm k).y,rV (hm k).w] 84)
 have f_h : AtT (w1.alloc (.cells #[rV (hm k).x,rV (hm k).y,rV (hm k).w] 84)) w1.heap.size (hm k) := heap_alloc_new w1 _
 replace f_m := At3.al (At3.md f_m k1) (.cells #[rV (hm k).x,rV (hm k).y,rV (hm k).w] 84)
 obtain ⟨q0,q1,q2⟩ := cells3 f_m
 have HH : Hid _ := And.intro E1 (And.intro f_m f_h)
 clear k1 E0 E1 f_m f_h
 go_wp2_with fail
 generalize w1.alloc (.cells #[rV (hm k).x,rV (hm k).y,rV (hm k).w] 84) = w1b at *
 clear q0 q1 q2
 obtain ⟨E1,f_m,f_h⟩ := HH.out
 clear HH
 refine (mfac_foot mb _ s i m w1b E1.2 hroom h8).mono ?_
 rintro e w2 ⟨rfl,k2⟩
 have E2 : MkEnd w w2 mb (L ++ [⟨5,s,m.w,0⟩]) (s + 1) i := MkEnd.trans E1 k2
 replace f_m := At3.kp f_m k2.1
 replace f_h := At3.kp f_h k2.1
 clear k2 E1
 obtain ⟨q0,q1,q2⟩ := cells3 f_m
 obtain ⟨p0,p1,p2⟩ := cells3 f_h
 have HH : Hid _ := And.intro E2 (And.intro f_m f_h)
 clear E2 f_m f_h
 go_wp2_with fail
 clear q0 q1 q2 p0 p1 p2
 obtain ⟨E2,f_m,f_h⟩ := HH.out
 clear HH
 refine (madd_any mb _ (s + 1) i ⟨4,(hm k).x,m.x,s⟩ w2 E2.2 (by simp; omega) ⟨by show 4 < 256; omega,by show 3 * k < 256; omega,h8.1,by show s < 256; omega⟩).mono ?_
 rintro e w3 ⟨rfl,k3,m3⟩
 have E3 : MkEnd w w3 mb (L ++ [⟨5,s,m.w,0⟩] ++ [⟨4,(hm k).x,m.x,s⟩]) (s + 1) i := MkEnd.trans E2 (show MkEnd w2 w3 mb _ (s + 1) i from ⟨k3,m3⟩)
 replace f_m := At3.kp f_m k3
 replace f_h := At3.kp f_h k3
 clear k3 m3 E2
 obtain ⟨q0,q1,q2⟩ := cells3 f_m
 obtain ⟨p0,p1,p2⟩ := cells3 f_h
 have HH : Hid _ := And.intro E3 (And.intro f_m f_h)
 clear E3 f_m f_h
 go_wp2_with fail
 clear q0 q1 q2 p0 p1 p2
 obtain ⟨E3,f_m,f_h⟩ := HH.out
 clear HH
 refine (madd_any mb _ (s + 1) i ⟨4,(hm k).y,m.y,s⟩ w3 E3.2 (by simp; omega) ⟨by show 4 < 256; omega,by show 3 * k + 1 < 256; omega,h8.2.1,by show s < 256; omega⟩).mono ?_
 rintro e w4 ⟨rfl,k4,m4⟩
 have E4 : MkEnd w w4 mb (L ++ [⟨5,s,m.w,0⟩] ++ [⟨4,(hm k).x,m.x,s⟩] ++ [⟨4,(hm k).y,m.y,s⟩]) (s + 1) i := MkEnd.trans E3 (show MkEnd w3 w4 mb _ (s + 1) i from ⟨k4,m4⟩)
 replace f_m := At3.kp f_m k4
 replace f_h := At3.kp f_h k4
 clear k4 m4 E3
 obtain ⟨q0,q1,q2⟩ := cells3 f_m
 obtain ⟨p0,p1,p2⟩ := cells3 f_h
 have HH : Hid _ := And.intro E4 (And.intro f_m f_h)
 clear E4 f_m f_h
 go_wp2_with fail
 clear q0 q1 q2 p0 p1 p2
 obtain ⟨E4,f_m,f_h⟩ := HH.out
 clear HH
 refine (madd_any mb _ (s + 1) i ⟨4,(hm k).w,m.w,s⟩ w4 E4.2 (by simp; omega) ⟨by show 4 < 256; omega,by show 3 * k + 2 < 256; omega,h8.2.2,by show s < 256; omega⟩).mono ?_
 rintro e w5 ⟨rfl,k5,m5⟩
 have E5 : MkEnd w w5 mb (L ++ [⟨5,s,m.w,0⟩] ++ [⟨4,(hm k).x,m.x,s⟩] ++ [⟨4,(hm k).y,m.y,s⟩] ++ [⟨4,(hm k).w,m.w,s⟩]) (s + 1) i := MkEnd.trans E4 (show MkEnd w4 w5 mb _ (s + 1) i from ⟨k5,m5⟩)
 replace f_m := At3.kp f_m k5
 replace f_h := At3.kp f_h k5
 clear k5 m5 E4
 have HE : Hid _ := E5
 clear E5 f_m f_h
 go_wp2_with fail
 have hL : L ++ [⟨5,s,m.w,0⟩] ++ [⟨4,(hm k).x,m.x,s⟩] ++ [⟨4,(hm k).y,m.y,s⟩] ++ [⟨4,(hm k).w,m.w,s⟩] = L ++ kpP s m k := by
  simp only [List.append_assoc]
  rfl
 exact bodyPost_end (v := .tuple #[]) (by simp [results,Tryz.results52]) rfl ⟨rfl,by rw [← hL]; exact HE.out⟩
set_option maxHeartbeats 1600000 in
theorem mkeep_mirror (mb : Nat) (L : List Stp) (s i : Nat) (m : Tr) (k : Nat) (w : World) (hM : Mkr w mb L s i) (hroom : Room L s 4) (h8 : S8 m) (hk : k < 16) :
  Calls Tryz.prog 52 #[mP mb,S [109,105,114,114,111,114],trV m,.int .i64 k] w fun e w' => e = .returned (.tuple #[]) ∧ MkEnd w w' mb (L ++ kpP s m k) (s + 1) i := by
 have r1 := hroom.1
 have r2 := hroom.2
 have E0 : MkEnd w (w.alloc (trO m)) mb L s i := MkEnd.al (show MkEnd w w mb L s i from ⟨Kp.refl mb w,hM⟩) _
 have f_m : AtT (w.alloc (trO m)) w.heap.size m := heap_alloc_new w _
 have HH : Hid _ := And.intro E0 f_m
 clear E0 f_m hM
 go_enter Tryz.func52,Tryz.ntmps52
 go_wp2_with fail
 generalize w.alloc (.cells #[rV m.x,rV m.y,rV m.w] 84) = w0 at *
 obtain ⟨E0,f_m⟩ := HH.out
 clear HH
 refine (home_any k hk w0).mono ?_
 rintro e w1 ⟨rfl,k1⟩
 have E1 := MkEnd.al (E0.md k1) (.cells #[rV (hm k).x,rV (hm k).y,rV (hm k).w] 84)
 have f_h : AtT (w1.alloc (.cells #[rV (hm k).x,rV (hm k).y,rV (hm k).w] 84)) w1.heap.size (hm k) := heap_alloc_new w1 _
 replace f_m := At3.al (At3.md f_m k1) (.cells #[rV (hm k).x,rV (hm k).y,rV (hm k).w] 84)
 obtain ⟨q0,q1,q2⟩ := cells3 f_m
 have HH : Hid _ := And.intro E1 (And.intro f_m f_h)
 clear k1 E0 E1 f_m f_h
 go_wp2_with fail
 generalize w1.alloc (.cells #[rV (hm k).x,rV (hm k).y,rV (hm k).w] 84) = w1b at *
 clear q0 q1 q2
 obtain ⟨E1,f_m,f_h⟩ := HH.out
 clear HH
 refine (mfac_mirror mb _ s i m w1b E1.2 hroom h8).mono ?_
 rintro e w2 ⟨rfl,k2⟩
 have E2 : MkEnd w w2 mb (L ++ [⟨5,s,m.w,0⟩]) (s + 1) i := MkEnd.trans E1 k2
 replace f_m := At3.kp f_m k2.1
 replace f_h := At3.kp f_h k2.1
 clear k2 E1
 obtain ⟨q0,q1,q2⟩ := cells3 f_m
 obtain ⟨p0,p1,p2⟩ := cells3 f_h
 have HH : Hid _ := And.intro E2 (And.intro f_m f_h)
 clear E2 f_m f_h
 go_wp2_with fail
 clear q0 q1 q2 p0 p1 p2
 obtain ⟨E2,f_m,f_h⟩ := HH.out
 clear HH
 refine (madd_any mb _ (s + 1) i ⟨4,(hm k).x,m.x,s⟩ w2 E2.2 (by simp; omega) ⟨by show 4 < 256; omega,by show 3 * k < 256; omega,h8.1,by show s < 256; omega⟩).mono ?_
 rintro e w3 ⟨rfl,k3,m3⟩
 have E3 : MkEnd w w3 mb (L ++ [⟨5,s,m.w,0⟩] ++ [⟨4,(hm k).x,m.x,s⟩]) (s + 1) i := MkEnd.trans E2 (show MkEnd w2 w3 mb _ (s + 1) i from ⟨k3,m3⟩)
 replace f_m := At3.kp f_m k3
 replace f_h := At3.kp f_h k3
 clear k3 m3 E2
 obtain ⟨q0,q1,q2⟩ := cells3 f_m
 obtain ⟨p0,p1,p2⟩ := cells3 f_h
 have HH : Hid _ := And.intro E3 (And.intro f_m f_h)
 clear E3 f_m f_h
 go_wp2_with fail
 clear q0 q1 q2 p0 p1 p2
 obtain ⟨E3,f_m,f_h⟩ := HH.out
 clear HH
 refine (madd_any mb _ (s + 1) i ⟨4,(hm k).y,m.y,s⟩ w3 E3.2 (by simp; omega) ⟨by show 4 < 256; omega,by show 3 * k + 1 < 256; omega,h8.2.1,by show s < 256; omega⟩).mono ?_
 rintro e w4 ⟨rfl,k4,m4⟩
 have E4 : MkEnd w w4 mb (L ++ [⟨5,s,m.w,0⟩] ++ [⟨4,(hm k).x,m.x,s⟩] ++ [⟨4,(hm k).y,m.y,s⟩]) (s + 1) i := MkEnd.trans E3 (show MkEnd w3 w4 mb _ (s + 1) i from ⟨k4,m4⟩)
 replace f_m := At3.kp f_m k4
 replace f_h := At3.kp f_h k4
 clear k4 m4 E3
 obtain ⟨q0,q1,q2⟩ := cells3 f_m
 obtain ⟨p0,p1,p2⟩ := cells3 f_h
 have HH : Hid _ := And.intro E4 (And.intro f_m f_h)
 clear E4 f_m f_h
 go_wp2_with fail
 clear q0 q1 q2 p0 p1 p2
 obtain ⟨E4,f_m,f_h⟩ := HH.out
 clear HH
 refine (madd_any mb _ (s + 1) i ⟨4,(hm k).w,m.w,s⟩ w4 E4.2 (by simp; omega) ⟨by show 4 < 256; omega,by show 3 * k + 2 < 256; omega,h8.2.2,by show s < 256; omega⟩).mono ?_
 rintro e w5 ⟨rfl,k5,m5⟩
 have E5 : MkEnd w w5 mb (L ++ [⟨5,s,m.w,0⟩] ++ [⟨4,(hm k).x,m.x,s⟩] ++ [⟨4,(hm k).y,m.y,s⟩] ++ [⟨4,(hm k).w,m.w,s⟩]) (s + 1) i := MkEnd.trans E4 (show MkEnd w4 w5 mb _ (s + 1) i from ⟨k5,m5⟩)
 replace f_m := At3.kp f_m k5
 replace f_h := At3.kp f_h k5
 clear k5 m5 E4
 have HE : Hid _ := E5
 clear E5 f_m f_h
 go_wp2_with fail
 have hL : L ++ [⟨5,s,m.w,0⟩] ++ [⟨4,(hm k).x,m.x,s⟩] ++ [⟨4,(hm k).y,m.y,s⟩] ++ [⟨4,(hm k).w,m.w,s⟩] = L ++ kpP s m k := by
  simp only [List.append_assoc]
  rfl
 exact bodyPost_end (v := .tuple #[]) (by simp [results,Tryz.results52]) rfl ⟨rfl,by rw [← hL]; exact HE.out⟩
set_option maxHeartbeats 1600000 in
theorem mkeep_centre (mb : Nat) (L : List Stp) (s i : Nat) (m : Tr) (k : Nat) (w : World) (hM : Mkr w mb L s i) (hroom : Room L s 4) (h8 : S8 m) (hk : k < 16) :
  Calls Tryz.prog 52 #[mP mb,S [99,101,110,116,114,101],trV m,.int .i64 k] w fun e w' => e = .returned (.tuple #[]) ∧ MkEnd w w' mb (L ++ kpP s m k) (s + 1) i := by
 have r1 := hroom.1
 have r2 := hroom.2
 have E0 : MkEnd w (w.alloc (trO m)) mb L s i := MkEnd.al (show MkEnd w w mb L s i from ⟨Kp.refl mb w,hM⟩) _
 have f_m : AtT (w.alloc (trO m)) w.heap.size m := heap_alloc_new w _
 have HH : Hid _ := And.intro E0 f_m
 clear E0 f_m hM
 go_enter Tryz.func52,Tryz.ntmps52
 go_wp2_with fail
 generalize w.alloc (.cells #[rV m.x,rV m.y,rV m.w] 84) = w0 at *
 obtain ⟨E0,f_m⟩ := HH.out
 clear HH
 refine (home_any k hk w0).mono ?_
 rintro e w1 ⟨rfl,k1⟩
 have E1 := MkEnd.al (E0.md k1) (.cells #[rV (hm k).x,rV (hm k).y,rV (hm k).w] 84)
 have f_h : AtT (w1.alloc (.cells #[rV (hm k).x,rV (hm k).y,rV (hm k).w] 84)) w1.heap.size (hm k) := heap_alloc_new w1 _
 replace f_m := At3.al (At3.md f_m k1) (.cells #[rV (hm k).x,rV (hm k).y,rV (hm k).w] 84)
 obtain ⟨q0,q1,q2⟩ := cells3 f_m
 have HH : Hid _ := And.intro E1 (And.intro f_m f_h)
 clear k1 E0 E1 f_m f_h
 go_wp2_with fail
 generalize w1.alloc (.cells #[rV (hm k).x,rV (hm k).y,rV (hm k).w] 84) = w1b at *
 clear q0 q1 q2
 obtain ⟨E1,f_m,f_h⟩ := HH.out
 clear HH
 refine (mfac_centre mb _ s i m w1b E1.2 hroom h8).mono ?_
 rintro e w2 ⟨rfl,k2⟩
 have E2 : MkEnd w w2 mb (L ++ [⟨5,s,m.w,0⟩]) (s + 1) i := MkEnd.trans E1 k2
 replace f_m := At3.kp f_m k2.1
 replace f_h := At3.kp f_h k2.1
 clear k2 E1
 obtain ⟨q0,q1,q2⟩ := cells3 f_m
 obtain ⟨p0,p1,p2⟩ := cells3 f_h
 have HH : Hid _ := And.intro E2 (And.intro f_m f_h)
 clear E2 f_m f_h
 go_wp2_with fail
 clear q0 q1 q2 p0 p1 p2
 obtain ⟨E2,f_m,f_h⟩ := HH.out
 clear HH
 refine (madd_any mb _ (s + 1) i ⟨4,(hm k).x,m.x,s⟩ w2 E2.2 (by simp; omega) ⟨by show 4 < 256; omega,by show 3 * k < 256; omega,h8.1,by show s < 256; omega⟩).mono ?_
 rintro e w3 ⟨rfl,k3,m3⟩
 have E3 : MkEnd w w3 mb (L ++ [⟨5,s,m.w,0⟩] ++ [⟨4,(hm k).x,m.x,s⟩]) (s + 1) i := MkEnd.trans E2 (show MkEnd w2 w3 mb _ (s + 1) i from ⟨k3,m3⟩)
 replace f_m := At3.kp f_m k3
 replace f_h := At3.kp f_h k3
 clear k3 m3 E2
 obtain ⟨q0,q1,q2⟩ := cells3 f_m
 obtain ⟨p0,p1,p2⟩ := cells3 f_h
 have HH : Hid _ := And.intro E3 (And.intro f_m f_h)
 clear E3 f_m f_h
 go_wp2_with fail
 clear q0 q1 q2 p0 p1 p2
 obtain ⟨E3,f_m,f_h⟩ := HH.out
 clear HH
 refine (madd_any mb _ (s + 1) i ⟨4,(hm k).y,m.y,s⟩ w3 E3.2 (by simp; omega) ⟨by show 4 < 256; omega,by show 3 * k + 1 < 256; omega,h8.2.1,by show s < 256; omega⟩).mono ?_
 rintro e w4 ⟨rfl,k4,m4⟩
 have E4 : MkEnd w w4 mb (L ++ [⟨5,s,m.w,0⟩] ++ [⟨4,(hm k).x,m.x,s⟩] ++ [⟨4,(hm k).y,m.y,s⟩]) (s + 1) i := MkEnd.trans E3 (show MkEnd w3 w4 mb _ (s + 1) i from ⟨k4,m4⟩)
 replace f_m := At3.kp f_m k4
 replace f_h := At3.kp f_h k4
 clear k4 m4 E3
 obtain ⟨q0,q1,q2⟩ := cells3 f_m
 obtain ⟨p0,p1,p2⟩ := cells3 f_h
 have HH : Hid _ := And.intro E4 (And.intro f_m f_h)
 clear E4 f_m f_h
 go_wp2_with fail
 clear q0 q1 q2 p0 p1 p2
 obtain ⟨E4,f_m,f_h⟩ := HH.out
 clear HH
 refine (madd_any mb _ (s + 1) i ⟨4,(hm k).w,m.w,s⟩ w4 E4.2 (by simp; omega) ⟨by show 4 < 256; omega,by show 3 * k + 2 < 256; omega,h8.2.2,by show s < 256; omega⟩).mono ?_
 rintro e w5 ⟨rfl,k5,m5⟩
 have E5 : MkEnd w w5 mb (L ++ [⟨5,s,m.w,0⟩] ++ [⟨4,(hm k).x,m.x,s⟩] ++ [⟨4,(hm k).y,m.y,s⟩] ++ [⟨4,(hm k).w,m.w,s⟩]) (s + 1) i := MkEnd.trans E4 (show MkEnd w4 w5 mb _ (s + 1) i from ⟨k5,m5⟩)
 replace f_m := At3.kp f_m k5
 replace f_h := At3.kp f_h k5
 clear k5 m5 E4
 have HE : Hid _ := E5
 clear E5 f_m f_h
 go_wp2_with fail
 have hL : L ++ [⟨5,s,m.w,0⟩] ++ [⟨4,(hm k).x,m.x,s⟩] ++ [⟨4,(hm k).y,m.y,s⟩] ++ [⟨4,(hm k).w,m.w,s⟩] = L ++ kpP s m k := by
  simp only [List.append_assoc]
  rfl
 exact bodyPost_end (v := .tuple #[]) (by simp [results,Tryz.results52]) rfl ⟨rfl,by rw [← hL]; exact HE.out⟩
set_option maxHeartbeats 1600000 in
theorem mkeep_line (mb : Nat) (L : List Stp) (s i : Nat) (m : Tr) (k : Nat) (w : World) (hM : Mkr w mb L s i) (hroom : Room L s 4) (h8 : S8 m) (hk : k < 16) :
  Calls Tryz.prog 52 #[mP mb,S [108,105,110,101],trV m,.int .i64 k] w fun e w' => e = .returned (.tuple #[]) ∧ MkEnd w w' mb (L ++ kpL s m k) (s + 1) i := by
 have r1 := hroom.1
 have r2 := hroom.2
 have E0 : MkEnd w (w.alloc (trO m)) mb L s i := MkEnd.al (show MkEnd w w mb L s i from ⟨Kp.refl mb w,hM⟩) _
 have f_m : AtT (w.alloc (trO m)) w.heap.size m := heap_alloc_new w _
 have HH : Hid _ := And.intro E0 f_m
 clear E0 f_m hM
 go_enter Tryz.func52,Tryz.ntmps52
 go_wp2_with fail
 generalize w.alloc (.cells #[rV m.x,rV m.y,rV m.w] 84) = w0 at *
 obtain ⟨E0,f_m⟩ := HH.out
 clear HH
 refine (home_any k hk w0).mono ?_
 rintro e w1 ⟨rfl,k1⟩
 have E1 := MkEnd.al (E0.md k1) (.cells #[rV (hm k).x,rV (hm k).y,rV (hm k).w] 84)
 have f_h : AtT (w1.alloc (.cells #[rV (hm k).x,rV (hm k).y,rV (hm k).w] 84)) w1.heap.size (hm k) := heap_alloc_new w1 _
 replace f_m := At3.al (At3.md f_m k1) (.cells #[rV (hm k).x,rV (hm k).y,rV (hm k).w] 84)
 obtain ⟨q0,q1,q2⟩ := cells3 f_m
 have HH : Hid _ := And.intro E1 (And.intro f_m f_h)
 clear k1 E0 E1 f_m f_h
 go_wp2_with fail
 generalize w1.alloc (.cells #[rV (hm k).x,rV (hm k).y,rV (hm k).w] 84) = w1b at *
 clear q0 q1 q2
 obtain ⟨E1,f_m,f_h⟩ := HH.out
 clear HH
 refine (mfac_line mb _ s i m w1b E1.2 hroom h8).mono ?_
 rintro e w2 ⟨rfl,k2⟩
 have E2 : MkEnd w w2 mb (L ++ [⟨1,s,1,0⟩]) (s + 1) i := MkEnd.trans E1 k2
 replace f_m := At3.kp f_m k2.1
 replace f_h := At3.kp f_h k2.1
 clear k2 E1
 obtain ⟨q0,q1,q2⟩ := cells3 f_m
 obtain ⟨p0,p1,p2⟩ := cells3 f_h
 have HH : Hid _ := And.intro E2 (And.intro f_m f_h)
 clear E2 f_m f_h
 go_wp2_with fail
 clear q0 q1 q2 p0 p1 p2
 obtain ⟨E2,f_m,f_h⟩ := HH.out
 clear HH
 refine (madd_any mb _ (s + 1) i ⟨4,(hm k).x,m.x,s⟩ w2 E2.2 (by simp; omega) ⟨by show 4 < 256; omega,by show 3 * k < 256; omega,h8.1,by show s < 256; omega⟩).mono ?_
 rintro e w3 ⟨rfl,k3,m3⟩
 have E3 : MkEnd w w3 mb (L ++ [⟨1,s,1,0⟩] ++ [⟨4,(hm k).x,m.x,s⟩]) (s + 1) i := MkEnd.trans E2 (show MkEnd w2 w3 mb _ (s + 1) i from ⟨k3,m3⟩)
 replace f_m := At3.kp f_m k3
 replace f_h := At3.kp f_h k3
 clear k3 m3 E2
 obtain ⟨q0,q1,q2⟩ := cells3 f_m
 obtain ⟨p0,p1,p2⟩ := cells3 f_h
 have HH : Hid _ := And.intro E3 (And.intro f_m f_h)
 clear E3 f_m f_h
 go_wp2_with fail
 clear q0 q1 q2 p0 p1 p2
 obtain ⟨E3,f_m,f_h⟩ := HH.out
 clear HH
 refine (madd_any mb _ (s + 1) i ⟨4,(hm k).y,m.y,s⟩ w3 E3.2 (by simp; omega) ⟨by show 4 < 256; omega,by show 3 * k + 1 < 256; omega,h8.2.1,by show s < 256; omega⟩).mono ?_
 rintro e w4 ⟨rfl,k4,m4⟩
 have E4 : MkEnd w w4 mb (L ++ [⟨1,s,1,0⟩] ++ [⟨4,(hm k).x,m.x,s⟩] ++ [⟨4,(hm k).y,m.y,s⟩]) (s + 1) i := MkEnd.trans E3 (show MkEnd w3 w4 mb _ (s + 1) i from ⟨k4,m4⟩)
 replace f_m := At3.kp f_m k4
 replace f_h := At3.kp f_h k4
 clear k4 m4 E3
 obtain ⟨q0,q1,q2⟩ := cells3 f_m
 obtain ⟨p0,p1,p2⟩ := cells3 f_h
 have HH : Hid _ := And.intro E4 (And.intro f_m f_h)
 clear E4 f_m f_h
 go_wp2_with fail
 clear q0 q1 q2 p0 p1 p2
 obtain ⟨E4,f_m,f_h⟩ := HH.out
 clear HH
 refine (madd_any mb _ (s + 1) i ⟨4,(hm k).w,m.w,s⟩ w4 E4.2 (by simp; omega) ⟨by show 4 < 256; omega,by show 3 * k + 2 < 256; omega,h8.2.2,by show s < 256; omega⟩).mono ?_
 rintro e w5 ⟨rfl,k5,m5⟩
 have E5 : MkEnd w w5 mb (L ++ [⟨1,s,1,0⟩] ++ [⟨4,(hm k).x,m.x,s⟩] ++ [⟨4,(hm k).y,m.y,s⟩] ++ [⟨4,(hm k).w,m.w,s⟩]) (s + 1) i := MkEnd.trans E4 (show MkEnd w4 w5 mb _ (s + 1) i from ⟨k5,m5⟩)
 replace f_m := At3.kp f_m k5
 replace f_h := At3.kp f_h k5
 clear k5 m5 E4
 have HE : Hid _ := E5
 clear E5 f_m f_h
 go_wp2_with fail
 have hL : L ++ [⟨1,s,1,0⟩] ++ [⟨4,(hm k).x,m.x,s⟩] ++ [⟨4,(hm k).y,m.y,s⟩] ++ [⟨4,(hm k).w,m.w,s⟩] = L ++ kpL s m k := by
  simp only [List.append_assoc]
  rfl
 exact bodyPost_end (v := .tuple #[]) (by simp [results,Tryz.results52]) rfl ⟨rfl,by rw [← hL]; exact HE.out⟩
set_option maxHeartbeats 1600000 in
theorem mkeep_par (mb : Nat) (L : List Stp) (s i : Nat) (m : Tr) (k : Nat) (w : World) (hM : Mkr w mb L s i) (hroom : Room L s 4) (h8 : S8 m) (hk : k < 16) :
  Calls Tryz.prog 52 #[mP mb,S [112,97,114],trV m,.int .i64 k] w fun e w' => e = .returned (.tuple #[]) ∧ MkEnd w w' mb (L ++ kpL s m k) (s + 1) i := by
 have r1 := hroom.1
 have r2 := hroom.2
 have E0 : MkEnd w (w.alloc (trO m)) mb L s i := MkEnd.al (show MkEnd w w mb L s i from ⟨Kp.refl mb w,hM⟩) _
 have f_m : AtT (w.alloc (trO m)) w.heap.size m := heap_alloc_new w _
 have HH : Hid _ := And.intro E0 f_m
 clear E0 f_m hM
 go_enter Tryz.func52,Tryz.ntmps52
 go_wp2_with fail
 generalize w.alloc (.cells #[rV m.x,rV m.y,rV m.w] 84) = w0 at *
 obtain ⟨E0,f_m⟩ := HH.out
 clear HH
 refine (home_any k hk w0).mono ?_
 rintro e w1 ⟨rfl,k1⟩
 have E1 := MkEnd.al (E0.md k1) (.cells #[rV (hm k).x,rV (hm k).y,rV (hm k).w] 84)
 have f_h : AtT (w1.alloc (.cells #[rV (hm k).x,rV (hm k).y,rV (hm k).w] 84)) w1.heap.size (hm k) := heap_alloc_new w1 _
 replace f_m := At3.al (At3.md f_m k1) (.cells #[rV (hm k).x,rV (hm k).y,rV (hm k).w] 84)
 obtain ⟨q0,q1,q2⟩ := cells3 f_m
 have HH : Hid _ := And.intro E1 (And.intro f_m f_h)
 clear k1 E0 E1 f_m f_h
 go_wp2_with fail
 generalize w1.alloc (.cells #[rV (hm k).x,rV (hm k).y,rV (hm k).w] 84) = w1b at *
 clear q0 q1 q2
 obtain ⟨E1,f_m,f_h⟩ := HH.out
 clear HH
 refine (mfac_par mb _ s i m w1b E1.2 hroom h8).mono ?_
 rintro e w2 ⟨rfl,k2⟩
 have E2 : MkEnd w w2 mb (L ++ [⟨1,s,1,0⟩]) (s + 1) i := MkEnd.trans E1 k2
 replace f_m := At3.kp f_m k2.1
 replace f_h := At3.kp f_h k2.1
 clear k2 E1
 obtain ⟨q0,q1,q2⟩ := cells3 f_m
 obtain ⟨p0,p1,p2⟩ := cells3 f_h
 have HH : Hid _ := And.intro E2 (And.intro f_m f_h)
 clear E2 f_m f_h
 go_wp2_with fail
 clear q0 q1 q2 p0 p1 p2
 obtain ⟨E2,f_m,f_h⟩ := HH.out
 clear HH
 refine (madd_any mb _ (s + 1) i ⟨4,(hm k).x,m.x,s⟩ w2 E2.2 (by simp; omega) ⟨by show 4 < 256; omega,by show 3 * k < 256; omega,h8.1,by show s < 256; omega⟩).mono ?_
 rintro e w3 ⟨rfl,k3,m3⟩
 have E3 : MkEnd w w3 mb (L ++ [⟨1,s,1,0⟩] ++ [⟨4,(hm k).x,m.x,s⟩]) (s + 1) i := MkEnd.trans E2 (show MkEnd w2 w3 mb _ (s + 1) i from ⟨k3,m3⟩)
 replace f_m := At3.kp f_m k3
 replace f_h := At3.kp f_h k3
 clear k3 m3 E2
 obtain ⟨q0,q1,q2⟩ := cells3 f_m
 obtain ⟨p0,p1,p2⟩ := cells3 f_h
 have HH : Hid _ := And.intro E3 (And.intro f_m f_h)
 clear E3 f_m f_h
 go_wp2_with fail
 clear q0 q1 q2 p0 p1 p2
 obtain ⟨E3,f_m,f_h⟩ := HH.out
 clear HH
 refine (madd_any mb _ (s + 1) i ⟨4,(hm k).y,m.y,s⟩ w3 E3.2 (by simp; omega) ⟨by show 4 < 256; omega,by show 3 * k + 1 < 256; omega,h8.2.1,by show s < 256; omega⟩).mono ?_
 rintro e w4 ⟨rfl,k4,m4⟩
 have E4 : MkEnd w w4 mb (L ++ [⟨1,s,1,0⟩] ++ [⟨4,(hm k).x,m.x,s⟩] ++ [⟨4,(hm k).y,m.y,s⟩]) (s + 1) i := MkEnd.trans E3 (show MkEnd w3 w4 mb _ (s + 1) i from ⟨k4,m4⟩)
 replace f_m := At3.kp f_m k4
 replace f_h := At3.kp f_h k4
 clear k4 m4 E3
 obtain ⟨q0,q1,q2⟩ := cells3 f_m
 obtain ⟨p0,p1,p2⟩ := cells3 f_h
 have HH : Hid _ := And.intro E4 (And.intro f_m f_h)
 clear E4 f_m f_h
 go_wp2_with fail
 clear q0 q1 q2 p0 p1 p2
 obtain ⟨E4,f_m,f_h⟩ := HH.out
 clear HH
 refine (madd_any mb _ (s + 1) i ⟨4,(hm k).w,m.w,s⟩ w4 E4.2 (by simp; omega) ⟨by show 4 < 256; omega,by show 3 * k + 2 < 256; omega,h8.2.2,by show s < 256; omega⟩).mono ?_
 rintro e w5 ⟨rfl,k5,m5⟩
 have E5 : MkEnd w w5 mb (L ++ [⟨1,s,1,0⟩] ++ [⟨4,(hm k).x,m.x,s⟩] ++ [⟨4,(hm k).y,m.y,s⟩] ++ [⟨4,(hm k).w,m.w,s⟩]) (s + 1) i := MkEnd.trans E4 (show MkEnd w4 w5 mb _ (s + 1) i from ⟨k5,m5⟩)
 replace f_m := At3.kp f_m k5
 replace f_h := At3.kp f_h k5
 clear k5 m5 E4
 have HE : Hid _ := E5
 clear E5 f_m f_h
 go_wp2_with fail
 have hL : L ++ [⟨1,s,1,0⟩] ++ [⟨4,(hm k).x,m.x,s⟩] ++ [⟨4,(hm k).y,m.y,s⟩] ++ [⟨4,(hm k).w,m.w,s⟩] = L ++ kpL s m k := by
  simp only [List.append_assoc]
  rfl
 exact bodyPost_end (v := .tuple #[]) (by simp [results,Tryz.results52]) rfl ⟨rfl,by rw [← hL]; exact HE.out⟩
set_option maxHeartbeats 1600000 in
theorem mkeep_perp (mb : Nat) (L : List Stp) (s i : Nat) (m : Tr) (k : Nat) (w : World) (hM : Mkr w mb L s i) (hroom : Room L s 4) (h8 : S8 m) (hk : k < 16) :
  Calls Tryz.prog 52 #[mP mb,S [112,101,114,112],trV m,.int .i64 k] w fun e w' => e = .returned (.tuple #[]) ∧ MkEnd w w' mb (L ++ kpL s m k) (s + 1) i := by
 have r1 := hroom.1
 have r2 := hroom.2
 have E0 : MkEnd w (w.alloc (trO m)) mb L s i := MkEnd.al (show MkEnd w w mb L s i from ⟨Kp.refl mb w,hM⟩) _
 have f_m : AtT (w.alloc (trO m)) w.heap.size m := heap_alloc_new w _
 have HH : Hid _ := And.intro E0 f_m
 clear E0 f_m hM
 go_enter Tryz.func52,Tryz.ntmps52
 go_wp2_with fail
 generalize w.alloc (.cells #[rV m.x,rV m.y,rV m.w] 84) = w0 at *
 obtain ⟨E0,f_m⟩ := HH.out
 clear HH
 refine (home_any k hk w0).mono ?_
 rintro e w1 ⟨rfl,k1⟩
 have E1 := MkEnd.al (E0.md k1) (.cells #[rV (hm k).x,rV (hm k).y,rV (hm k).w] 84)
 have f_h : AtT (w1.alloc (.cells #[rV (hm k).x,rV (hm k).y,rV (hm k).w] 84)) w1.heap.size (hm k) := heap_alloc_new w1 _
 replace f_m := At3.al (At3.md f_m k1) (.cells #[rV (hm k).x,rV (hm k).y,rV (hm k).w] 84)
 obtain ⟨q0,q1,q2⟩ := cells3 f_m
 have HH : Hid _ := And.intro E1 (And.intro f_m f_h)
 clear k1 E0 E1 f_m f_h
 go_wp2_with fail
 generalize w1.alloc (.cells #[rV (hm k).x,rV (hm k).y,rV (hm k).w] 84) = w1b at *
 clear q0 q1 q2
 obtain ⟨E1,f_m,f_h⟩ := HH.out
 clear HH
 refine (mfac_perp mb _ s i m w1b E1.2 hroom h8).mono ?_
 rintro e w2 ⟨rfl,k2⟩
 have E2 : MkEnd w w2 mb (L ++ [⟨1,s,1,0⟩]) (s + 1) i := MkEnd.trans E1 k2
 replace f_m := At3.kp f_m k2.1
 replace f_h := At3.kp f_h k2.1
 clear k2 E1
 obtain ⟨q0,q1,q2⟩ := cells3 f_m
 obtain ⟨p0,p1,p2⟩ := cells3 f_h
 have HH : Hid _ := And.intro E2 (And.intro f_m f_h)
 clear E2 f_m f_h
 go_wp2_with fail
 clear q0 q1 q2 p0 p1 p2
 obtain ⟨E2,f_m,f_h⟩ := HH.out
 clear HH
 refine (madd_any mb _ (s + 1) i ⟨4,(hm k).x,m.x,s⟩ w2 E2.2 (by simp; omega) ⟨by show 4 < 256; omega,by show 3 * k < 256; omega,h8.1,by show s < 256; omega⟩).mono ?_
 rintro e w3 ⟨rfl,k3,m3⟩
 have E3 : MkEnd w w3 mb (L ++ [⟨1,s,1,0⟩] ++ [⟨4,(hm k).x,m.x,s⟩]) (s + 1) i := MkEnd.trans E2 (show MkEnd w2 w3 mb _ (s + 1) i from ⟨k3,m3⟩)
 replace f_m := At3.kp f_m k3
 replace f_h := At3.kp f_h k3
 clear k3 m3 E2
 obtain ⟨q0,q1,q2⟩ := cells3 f_m
 obtain ⟨p0,p1,p2⟩ := cells3 f_h
 have HH : Hid _ := And.intro E3 (And.intro f_m f_h)
 clear E3 f_m f_h
 go_wp2_with fail
 clear q0 q1 q2 p0 p1 p2
 obtain ⟨E3,f_m,f_h⟩ := HH.out
 clear HH
 refine (madd_any mb _ (s + 1) i ⟨4,(hm k).y,m.y,s⟩ w3 E3.2 (by simp; omega) ⟨by show 4 < 256; omega,by show 3 * k + 1 < 256; omega,h8.2.1,by show s < 256; omega⟩).mono ?_
 rintro e w4 ⟨rfl,k4,m4⟩
 have E4 : MkEnd w w4 mb (L ++ [⟨1,s,1,0⟩] ++ [⟨4,(hm k).x,m.x,s⟩] ++ [⟨4,(hm k).y,m.y,s⟩]) (s + 1) i := MkEnd.trans E3 (show MkEnd w3 w4 mb _ (s + 1) i from ⟨k4,m4⟩)
 replace f_m := At3.kp f_m k4
 replace f_h := At3.kp f_h k4
 clear k4 m4 E3
 obtain ⟨q0,q1,q2⟩ := cells3 f_m
 obtain ⟨p0,p1,p2⟩ := cells3 f_h
 have HH : Hid _ := And.intro E4 (And.intro f_m f_h)
 clear E4 f_m f_h
 go_wp2_with fail
 clear q0 q1 q2 p0 p1 p2
 obtain ⟨E4,f_m,f_h⟩ := HH.out
 clear HH
 refine (madd_any mb _ (s + 1) i ⟨4,(hm k).w,m.w,s⟩ w4 E4.2 (by simp; omega) ⟨by show 4 < 256; omega,by show 3 * k + 2 < 256; omega,h8.2.2,by show s < 256; omega⟩).mono ?_
 rintro e w5 ⟨rfl,k5,m5⟩
 have E5 : MkEnd w w5 mb (L ++ [⟨1,s,1,0⟩] ++ [⟨4,(hm k).x,m.x,s⟩] ++ [⟨4,(hm k).y,m.y,s⟩] ++ [⟨4,(hm k).w,m.w,s⟩]) (s + 1) i := MkEnd.trans E4 (show MkEnd w4 w5 mb _ (s + 1) i from ⟨k5,m5⟩)
 replace f_m := At3.kp f_m k5
 replace f_h := At3.kp f_h k5
 clear k5 m5 E4
 have HE : Hid _ := E5
 clear E5 f_m f_h
 go_wp2_with fail
 have hL : L ++ [⟨1,s,1,0⟩] ++ [⟨4,(hm k).x,m.x,s⟩] ++ [⟨4,(hm k).y,m.y,s⟩] ++ [⟨4,(hm k).w,m.w,s⟩] = L ++ kpL s m k := by
  simp only [List.append_assoc]
  rfl
 exact bodyPost_end (v := .tuple #[]) (by simp [results,Tryz.results52]) rfl ⟨rfl,by rw [← hL]; exact HE.out⟩
abbrev thC (t : Th) : Array Value := #[rV t.a.x,rV t.a.y,rV t.a.w,rV t.b.x,rV t.b.y,rV t.b.w,rV t.c.x,rV t.c.y,rV t.c.w,rV t.d.x,rV t.d.y,rV t.d.w]
theorem Tryz.infoTh : (Tryz.prog.info? 86).map (·.size) = some 12 := by kernel_rfl
theorem th_one (t : Th) : (thC t).all (·.oneCell') = true := by simp [thC,Value.oneCell']
def tz : Tr := ⟨0,0,0⟩
def thz : Th := ⟨tz,tz,tz,tz⟩
def thK (l : List St) (x : St) (k : Nat) : Th := ⟨if 0 < k then thJ l x 0 else tz,if 1 < k then thJ l x 1 else tz,if 2 < k then thJ l x 2 else tz,if 3 < k then thJ l x 3 else tz⟩
theorem thK_all (l : List St) (x : St) : thK l x x.args.length = thO l x := by
 have key : ∀ j,(if j < x.args.length then thJ l x j else tz) = thJ l x j := fun j => by
  unfold thJ tz
  split <;> rfl
 unfold thK thO
 rw [key,key,key,key]
theorem fzH {w : World} {k : Nat} {t : Th} (h : AtH w k t) (i : Nat) : w.frozen? ⟨k,i,none⟩ = false := by unfold AtH at h; simp [World.frozen?,h]
def set3o (w : World) (b o : Nat) (x y z : Value) : World := ((w.setCell ⟨b,o,none⟩ x).setCell ⟨b,o + 1,none⟩ y).setCell ⟨b,o + 2,none⟩ z
theorem set3o_own (w : World) (b o : Nat) (x y z : Value) : Mod (fun q => q = b) w (set3o w b o x y z) := by
 have h0 : Mod (fun q => q = b) w (w.setCell ⟨b,o,none⟩ x) := (Mod.refl _ w).setCell ⟨b,o,none⟩ x (fun _ => rfl)
 have h1 := h0.setCell ⟨b,o + 1,none⟩ y (fun _ => rfl)
 exact h1.setCell ⟨b,o + 2,none⟩ z (fun _ => rfl)
theorem set3o_mod {a w : World} (h : Mod (fun _ => False) a w) (b o : Nat) (x y z : Value) (hb : a.heap.size ≤ b) : Mod (fun _ => False) a (set3o w b o x y z) := by
 have := (h.mono (q := fun q => q = b) (fun _ _ f => f.elim)).trans (set3o_own w b o x y z)
 exact this.mono (fun k hk e => by omega)
theorem cellsH {w : World} {b : Nat} {C : Array Value} {ty : TypeId} (i : Nat) (v : Value) (h : w.heap[b]? = some (.cells C ty (0,0))) : (w.setCell ⟨b,i,none⟩ v).heap[b]? = some (.cells (C.setIfInBounds i v) ty (0,0)) := by
 simp [World.setCell,Array.getElem?_modify,h]
theorem AtH.set0 {w : World} {b : Nat} {t : Th} (h : AtH w b t) (u : Tr) : AtH (set3o w b 0 (rV u.x) (rV u.y) (rV u.w)) b ⟨u,t.b,t.c,t.d⟩ := cellsH 2 _ (cellsH 1 _ (cellsH 0 _ h))
theorem AtH.set1 {w : World} {b : Nat} {t : Th} (h : AtH w b t) (u : Tr) : AtH (set3o w b 3 (rV u.x) (rV u.y) (rV u.w)) b ⟨t.a,u,t.c,t.d⟩ := cellsH 5 _ (cellsH 4 _ (cellsH 3 _ h))
theorem AtH.set2 {w : World} {b : Nat} {t : Th} (h : AtH w b t) (u : Tr) : AtH (set3o w b 6 (rV u.x) (rV u.y) (rV u.w)) b ⟨t.a,t.b,u,t.d⟩ := cellsH 8 _ (cellsH 7 _ (cellsH 6 _ h))
theorem AtH.set3 {w : World} {b : Nat} {t : Th} (h : AtH w b t) (u : Tr) : AtH (set3o w b 9 (rV u.x) (rV u.y) (rV u.w)) b ⟨t.a,t.b,t.c,u⟩ := cellsH 11 _ (cellsH 10 _ (cellsH 9 _ h))
set_option maxHeartbeats 1600000 in
set_option maxRecDepth 100000 in
theorem argsOf_any (v : Value) (q : List It) (base : Nat) (x : St) (av : Value) (wt : Int) (w : World) (hq : q.length ≤ 16) (hal : x.args.length ≤ 4) (hL : Lst w base v q) (hA : w.ownsRow base 5 1 av x.args.length (bvs x.args))
  (hg : ∀ i (hi : i < x.args.length),∃ k,k < 16 ∧ gvI (q.map It.x) x.args[i].toNat = ((k : Nat) : Int)) :
  Calls Tryz.prog 46 #[v,ag4 x.name x.word av wt] w fun e w' => e = .returned (thV (thO (q.map It.x) x)) ∧ Mod (fun _ => False) w w' := by
 have hav := owns_one hA
 obtain ⟨aa,acap,rfl,-⟩ := owns_form hA
 have HG : Hid (∀ i (hi : i < x.args.length),∃ k,k < 16 ∧ gvI (q.map It.x) x.args[i].toNat = ((k : Nat) : Int)) := hg
 have HK : Hid (thK (q.map It.x) x x.args.length = thO (q.map It.x) x) := thK_all _ _
 clear hg
 have hm0 : Mod (fun _ => False) w (((w.alloc (.cells #[.int .u8 x.name,S x.word,.slice aa x.args.length acap,.int .i64 wt] 72)).alloc (.cells #[.int .u8 0,.int .u8 0,.int .u8 0,.int .u8 0,.int .u8 0,.int .u8 0,.int .u8 0,.int .u8 0,.int .u8 0,.int .u8 0,.int .u8 0,.int .u8 0] 86)).alloc (.cells #[.int .u8 0,.int .u8 0,.int .u8 0,.int .u8 0,.int .u8 0,.int .u8 0,.int .u8 0,.int .u8 0,.int .u8 0,.int .u8 0,.int .u8 0,.int .u8 0] 86)) := (((Mod.refl _ w).alloc _).alloc _).alloc _
 have f_r : AtH (((w.alloc (.cells #[.int .u8 x.name,S x.word,.slice aa x.args.length acap,.int .i64 wt] 72)).alloc (.cells #[.int .u8 0,.int .u8 0,.int .u8 0,.int .u8 0,.int .u8 0,.int .u8 0,.int .u8 0,.int .u8 0,.int .u8 0,.int .u8 0,.int .u8 0,.int .u8 0] 86)).alloc (.cells #[.int .u8 0,.int .u8 0,.int .u8 0,.int .u8 0,.int .u8 0,.int .u8 0,.int .u8 0,.int .u8 0,.int .u8 0,.int .u8 0,.int .u8 0,.int .u8 0] 86)) (w.heap.size + 1) thz := by
  have h := heap_alloc_new (w.alloc (.cells #[.int .u8 x.name,S x.word,.slice aa x.args.length acap,.int .i64 wt] 72)) (.cells #[.int .u8 0,.int .u8 0,.int .u8 0,.int .u8 0,.int .u8 0,.int .u8 0,.int .u8 0,.int .u8 0,.int .u8 0,.int .u8 0,.int .u8 0,.int .u8 0] 86)
  simp only [sz_al] at h
  exact AtH.al (t := thz) h _
 have f_t : AtH (((w.alloc (.cells #[.int .u8 x.name,S x.word,.slice aa x.args.length acap,.int .i64 wt] 72)).alloc (.cells #[.int .u8 0,.int .u8 0,.int .u8 0,.int .u8 0,.int .u8 0,.int .u8 0,.int .u8 0,.int .u8 0,.int .u8 0,.int .u8 0,.int .u8 0,.int .u8 0] 86)).alloc (.cells #[.int .u8 0,.int .u8 0,.int .u8 0,.int .u8 0,.int .u8 0,.int .u8 0,.int .u8 0,.int .u8 0,.int .u8 0,.int .u8 0,.int .u8 0,.int .u8 0] 86)) (w.heap.size + 1 + 1) thz := by
  have h := heap_alloc_new ((w.alloc (.cells #[.int .u8 x.name,S x.word,.slice aa x.args.length acap,.int .i64 wt] 72)).alloc (.cells #[.int .u8 0,.int .u8 0,.int .u8 0,.int .u8 0,.int .u8 0,.int .u8 0,.int .u8 0,.int .u8 0,.int .u8 0,.int .u8 0,.int .u8 0,.int .u8 0] 86)) (.cells #[.int .u8 0,.int .u8 0,.int .u8 0,.int .u8 0,.int .u8 0,.int .u8 0,.int .u8 0,.int .u8 0,.int .u8 0,.int .u8 0,.int .u8 0,.int .u8 0] 86)
  simp only [sz_al] at h
  exact h
 have HH : Hid _ := And.intro hm0 (And.intro f_r f_t)
 clear hm0 f_r f_t
 go_enter Tryz.func46,Tryz.ntmps46
 go_wp2_with fail
 generalize ((w.alloc (.cells #[.int .u8 x.name,S x.word,.slice aa x.args.length acap,.int .i64 wt] 72)).alloc (.cells #[.int .u8 0,.int .u8 0,.int .u8 0,.int .u8 0,.int .u8 0,.int .u8 0,.int .u8 0,.int .u8 0,.int .u8 0,.int .u8 0,.int .u8 0,.int .u8 0] 86)).alloc (.cells #[.int .u8 0,.int .u8 0,.int .u8 0,.int .u8 0,.int .u8 0,.int .u8 0,.int .u8 0,.int .u8 0,.int .u8 0,.int .u8 0,.int .u8 0,.int .u8 0] 86) = w0 at *
 obtain ⟨hm0,f_r,f_t⟩ := HH.out
 clear HH
 go_loopw [12] (fun i wr => ∃ k : Nat,k ≤ x.args.length ∧ i = .int .i64 k ∧ Mod (fun _ => False) w wr ∧ AtH wr (w.heap.size + 1) thz ∧ AtH wr (w.heap.size + 1 + 1) (thK (q.map It.x) x k)) (fun i _ => x.args.length - (intOf i).toNat)
 case atStart => exact ⟨0,by omega,rfl,hm0,f_r,f_t⟩
 case round =>
  clear hm0 f_r f_t
  obtain ⟨k,hk,rfl,hmd,f_r,f_t⟩ := hrel
  by_cases hlt : k < x.args.length
  ·have hLr := hL.mod hmd (fun _ _ _ f => f)
   have hAr := owns_mod hA hmd (fun _ _ f => f)
   obtain ⟨gb,rfl,ck⟩ := args_cell hAr rfl hlt
   obtain ⟨j,hj,hgj⟩ := HG.out k hlt
   have hj1 : ((j : Int) == -1) = false := by rw [beq_eq_false_iff_ne]; omega
   have hj2 : ((j : Int) != -1) = true := by rw [bne_iff_ne]; omega
   have hgv := giver_any v q x.args[k].toNat base wr (by omega) hLr
   rw [hgj] at hgv
   have HJ : Hid (thJ (q.map It.x) x k = hm j) := show thJ (q.map It.x) x k = hm j by
    unfold thJ ix ag
    rw [if_pos hlt,List.getElem?_eq_getElem hlt,Option.getD_some,hgj]; rfl
   clear hgj hLr hAr
   have hk4 : k < 4 := by omega
   have HH : Hid _ := And.intro hmd (And.intro f_r f_t)
   clear hmd f_r f_t
   rcases (show k = 0 ∨ k = 1 ∨ k = 2 ∨ k = 3 by omega) with rfl | rfl | rfl | rfl
   ·go_wp2_with fail
    refine hgv.mono ?_
    rintro e w2 ⟨rfl,rfl⟩
    clear hgv
    go_wp2_with fail
    obtain ⟨hmd,f_r,f_t⟩ := HH.out
    clear HH
    refine (home_any j hj wr).mono ?_
    rintro e w3 ⟨rfl,k3⟩
    have hm3 := hmd.trans k3
    replace f_r := AtH.md f_r k3
    replace f_t := AtH.md f_t k3
    obtain ⟨c0,c1,c2,c3,c4,c5,c6,c7,c8,c9,c10,c11⟩ := f_t.cs
    have z0 := fzH f_t 0
    have z1 := fzH f_t 1
    have z2 := fzH f_t 2
    have f_t4 := AtH.set0 f_t (hm j)
    have hTh : (⟨hm j,(thK (q.map It.x) x 0).b,(thK (q.map It.x) x 0).c,(thK (q.map It.x) x 0).d⟩ : Th) = thK (q.map It.x) x 1 := by rw [← HJ.out]; rfl
    rw [hTh] at f_t4
    have f_r4 : AtH (set3o w3 (w.heap.size + 1 + 1) 0 (rV (hm j).x) (rV (hm j).y) (rV (hm j).w)) (w.heap.size + 1) thz := (set3o_own w3 (w.heap.size + 1 + 1) 0 (rV (hm j).x) (rV (hm j).y) (rV (hm j).w)).keep f_r (by omega)
    have hm4 := set3o_mod hm3 (w.heap.size + 1 + 1) 0 (rV (hm j).x) (rV (hm j).y) (rV (hm j).w) (by omega)
    have HX : Hid _ := And.intro hm4 (And.intro f_r4 f_t4)
    clear hmd hm3 k3 f_r f_t hm4 f_r4 f_t4
    go_wp2_with fail
    go_roundw
    case rel => exact ⟨1,by omega,by go_num,HX.out.1,HX.out.2.1,HX.out.2.2⟩
    case measure => simp [intOf]; omega
   ·go_wp2_with fail
    refine hgv.mono ?_
    rintro e w2 ⟨rfl,rfl⟩
    clear hgv
    go_wp2_with fail
    obtain ⟨hmd,f_r,f_t⟩ := HH.out
    clear HH
    refine (home_any j hj wr).mono ?_
    rintro e w3 ⟨rfl,k3⟩
    have hm3 := hmd.trans k3
    replace f_r := AtH.md f_r k3
    replace f_t := AtH.md f_t k3
    obtain ⟨c0,c1,c2,c3,c4,c5,c6,c7,c8,c9,c10,c11⟩ := f_t.cs
    have z0 := fzH f_t 3
    have z1 := fzH f_t 4
    have z2 := fzH f_t 5
    have f_t4 := AtH.set1 f_t (hm j)
    have hTh : (⟨(thK (q.map It.x) x 1).a,hm j,(thK (q.map It.x) x 1).c,(thK (q.map It.x) x 1).d⟩ : Th) = thK (q.map It.x) x 2 := by rw [← HJ.out]; rfl
    rw [hTh] at f_t4
    have f_r4 : AtH (set3o w3 (w.heap.size + 1 + 1) 3 (rV (hm j).x) (rV (hm j).y) (rV (hm j).w)) (w.heap.size + 1) thz := (set3o_own w3 (w.heap.size + 1 + 1) 3 (rV (hm j).x) (rV (hm j).y) (rV (hm j).w)).keep f_r (by omega)
    have hm4 := set3o_mod hm3 (w.heap.size + 1 + 1) 3 (rV (hm j).x) (rV (hm j).y) (rV (hm j).w) (by omega)
    have HX : Hid _ := And.intro hm4 (And.intro f_r4 f_t4)
    clear hmd hm3 k3 f_r f_t hm4 f_r4 f_t4
    go_wp2_with fail
    go_roundw
    case rel => exact ⟨2,by omega,by go_num,HX.out.1,HX.out.2.1,HX.out.2.2⟩
    case measure => simp [intOf]; omega
   ·go_wp2_with fail
    refine hgv.mono ?_
    rintro e w2 ⟨rfl,rfl⟩
    clear hgv
    go_wp2_with fail
    obtain ⟨hmd,f_r,f_t⟩ := HH.out
    clear HH
    refine (home_any j hj wr).mono ?_
    rintro e w3 ⟨rfl,k3⟩
    have hm3 := hmd.trans k3
    replace f_r := AtH.md f_r k3
    replace f_t := AtH.md f_t k3
    obtain ⟨c0,c1,c2,c3,c4,c5,c6,c7,c8,c9,c10,c11⟩ := f_t.cs
    have z0 := fzH f_t 6
    have z1 := fzH f_t 7
    have z2 := fzH f_t 8
    have f_t4 := AtH.set2 f_t (hm j)
    have hTh : (⟨(thK (q.map It.x) x 2).a,(thK (q.map It.x) x 2).b,hm j,(thK (q.map It.x) x 2).d⟩ : Th) = thK (q.map It.x) x 3 := by rw [← HJ.out]; rfl
    rw [hTh] at f_t4
    have f_r4 : AtH (set3o w3 (w.heap.size + 1 + 1) 6 (rV (hm j).x) (rV (hm j).y) (rV (hm j).w)) (w.heap.size + 1) thz := (set3o_own w3 (w.heap.size + 1 + 1) 6 (rV (hm j).x) (rV (hm j).y) (rV (hm j).w)).keep f_r (by omega)
    have hm4 := set3o_mod hm3 (w.heap.size + 1 + 1) 6 (rV (hm j).x) (rV (hm j).y) (rV (hm j).w) (by omega)
    have HX : Hid _ := And.intro hm4 (And.intro f_r4 f_t4)
    clear hmd hm3 k3 f_r f_t hm4 f_r4 f_t4
    go_wp2_with fail
    go_roundw
    case rel => exact ⟨3,by omega,by go_num,HX.out.1,HX.out.2.1,HX.out.2.2⟩
    case measure => simp [intOf]; omega
   ·go_wp2_with fail
    refine hgv.mono ?_
    rintro e w2 ⟨rfl,rfl⟩
    clear hgv
    go_wp2_with fail
    obtain ⟨hmd,f_r,f_t⟩ := HH.out
    clear HH
    refine (home_any j hj wr).mono ?_
    rintro e w3 ⟨rfl,k3⟩
    have hm3 := hmd.trans k3
    replace f_r := AtH.md f_r k3
    replace f_t := AtH.md f_t k3
    obtain ⟨c0,c1,c2,c3,c4,c5,c6,c7,c8,c9,c10,c11⟩ := f_t.cs
    have z0 := fzH f_t 9
    have z1 := fzH f_t 10
    have z2 := fzH f_t 11
    have f_t4 := AtH.set3 f_t (hm j)
    have hTh : (⟨(thK (q.map It.x) x 3).a,(thK (q.map It.x) x 3).b,(thK (q.map It.x) x 3).c,hm j⟩ : Th) = thK (q.map It.x) x 4 := by rw [← HJ.out]; rfl
    rw [hTh] at f_t4
    have f_r4 : AtH (set3o w3 (w.heap.size + 1 + 1) 9 (rV (hm j).x) (rV (hm j).y) (rV (hm j).w)) (w.heap.size + 1) thz := (set3o_own w3 (w.heap.size + 1 + 1) 9 (rV (hm j).x) (rV (hm j).y) (rV (hm j).w)).keep f_r (by omega)
    have hm4 := set3o_mod hm3 (w.heap.size + 1 + 1) 9 (rV (hm j).x) (rV (hm j).y) (rV (hm j).w) (by omega)
    have HX : Hid _ := And.intro hm4 (And.intro f_r4 f_t4)
    clear hmd hm3 k3 f_r f_t hm4 f_r4 f_t4
    go_wp2_with fail
    go_roundw
    case rel => exact ⟨4,by omega,by go_num,HX.out.1,HX.out.2.1,HX.out.2.2⟩
    case measure => simp [intOf]; omega
  ·have hks : k = x.args.length := by omega
   subst hks
   rw [HK.out] at f_t
   have HF1 : Hid _ := f_t
   have HF2 : Hid _ := f_r
   have HM : Hid _ := setRow_new (b := w.heap.size + 1) (C := thC (thO (q.map It.x) x)) hmd (by omega)
   have HQ : Hid _ := run_loadVar_row (P := Tryz.prog) _ _ _ 86 (thC (thO (q.map It.x) x)) (0,0) _ (setRow_at (C' := thC (thO (q.map It.x) x)) f_r) Tryz.underlying86 rfl Tryz.infoTh
   clear hmd f_r f_t
   go_wp2_with (first
    | (refine wpList_load_row rfl 86 _ rfl _ rfl (thC (thO (q.map It.x) x)) 86 (0,0) ?hb0 _ Tryz.underlying86 rfl Tryz.infoTh ?_; case hb0 => exact HF1.out)
    | (refine wpList_store_row rfl 86 _ _ rfl _ (thC thz) (thC (thO (q.map It.x) x)) 86 rfl rfl ?hb1 Tryz.infoTh rfl (th_one _) ?_; case hb1 => exact HF2.out))
   refine bodyPost_ret (v := thV (thO (q.map It.x) x)) ?_ rfl ⟨rfl,HM.out⟩
   rw [results_one Tryz.results46]
   simp [asAddr,Result.andThen,HQ.out,Act.put]
end Go.Proofs.YtmnfndpbblpjiabGreatDoor
