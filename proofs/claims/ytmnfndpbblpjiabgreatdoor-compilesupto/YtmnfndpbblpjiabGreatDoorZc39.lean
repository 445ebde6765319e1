/- The maker's constructions, word by word. -/
import Derived.Test.YtmnfndpbblpjiabGreatDoorZc38
namespace Go.Proofs.YtmnfndpbblpjiabGreatDoor
open Go.RowKit Pu
theorem MkEnd.md {a b c : World} {mb s i : Nat} {L : List Stp} (h : MkEnd a b mb L s i) (hm : Mod (fun _ => False) b c) : MkEnd a c mb L s i := ⟨Kp.trans h.1 (Kp.of hm),h.2.mod hm⟩
set_option maxHeartbeats 800000 in
theorem mcon_pt (mb : Nat) (L : List Stp) (s i : Nat) (t : Th) (w : World) (hM : Mkr w mb L s i) (hroom : Room L s 3) (_h8 : S12 t) (hin : i < 100) :
  Calls Tryz.prog 50 #[mP mb,S [112,116],thV t] w fun e w' => e = .returned (trV (givenR s)) ∧ MkEnd w w' mb (L ++ givenL s i) (s + 3) (i + 2) := by
 have r2 := hroom.2
 have E0 : MkEnd w ((w.alloc (thB t)).alloc trZ) mb L s i := MkEnd.al (MkEnd.al (show MkEnd w w mb L s i from ⟨Kp.refl mb w,hM⟩) _) _
 have f_t : AtH ((w.alloc (thB t)).alloc trZ) w.heap.size t := (AtH.new w t).al _
 have f_R : At3 ((w.alloc (thB t)).alloc trZ) (w.heap.size + 1) (.int .u8 0) (.int .u8 0) (.int .u8 0) := by
  have h := heap_alloc_new (w.alloc (thB t)) trZ
  simp only [sz_al] at h
  exact h
 have hsz : w.heap.size + 1 < ((w.alloc (thB t)).alloc trZ).heap.size := by simp only [sz_al]; omega
 obtain ⟨c0,c1,c2,c3,c4,c5,c6,c7,c8,c9,c10,c11⟩ := f_t.cs
 have HH : Hid _ := And.intro E0 (And.intro hsz f_R)
 clear E0 f_t f_R hM hsz
 go_enter Tryz.func50,Tryz.ntmps50
 go_wp2_with fail
 generalize (w.alloc (.cells #[rV t.a.x,rV t.a.y,rV t.a.w,rV t.b.x,rV t.b.y,rV t.b.w,rV t.c.x,rV t.c.y,rV t.c.w,rV t.d.x,rV t.d.y,rV t.d.w] 86)).alloc (.cells #[.int .u8 0,.int .u8 0,.int .u8 0] 84) = w0 at *
 clear c0 c1 c2 c3 c4 c5 c6 c7 c8 c9 c10 c11
 obtain ⟨E0,hsz,f_R⟩ := HH.out
 clear HH
 refine (mgiv_any mb _ s i w0 E0.2 (hroom.mono (by omega)) hin).mono ?_
 rintro e w1 ⟨rfl,k1⟩
 have E1 := MkEnd.trans E0 k1
 replace f_R := At3.kp f_R k1.1
 replace hsz := Nat.lt_of_lt_of_le hsz k1.1.size
 have z0 := fz3 f_R 0
 have z1 := fz3 f_R 1
 have z2 := fz3 f_R 2
 obtain ⟨y0,y1,y2⟩ := cells3 f_R
 have HC : Hid _ := cells3 (set3_at (x' := rV (givenR s).x) (y' := rV (givenR s).y) (z' := rV (givenR s).w) f_R)
 have HE : Hid _ := MkEnd.st (x' := rV (givenR s).x) (y' := rV (givenR s).y) (z' := rV (givenR s).w) E1 f_R (by omega)
 clear k1 E0 E1 f_R hroom
 go_wp2_with fail
 obtain ⟨g0,g1,g2⟩ := HC.out
 unfold set3 at g0 g1 g2
 exact bodyPost_ret (v := trV (givenR s)) (by simp [results,Tryz.results50,go_sem,g0,g1,g2]) rfl ⟨rfl,HE.out⟩
set_option maxHeartbeats 800000 in
theorem mcon_mid (mb : Nat) (L : List Stp) (s i : Nat) (t : Th) (w : World) (hM : Mkr w mb L s i) (hroom : Room L s 8) (h8 : S12 t) :
  Calls Tryz.prog 50 #[mP mb,S [109,105,100],thV t] w fun e w' => e = .returned (trV (midR s)) ∧ MkEnd w w' mb (L ++ midL s t.a t.b) (s + 8) (i) := by
 have r2 := hroom.2
 have E0 : MkEnd w ((w.alloc (thB t)).alloc trZ) mb L s i := MkEnd.al (MkEnd.al (show MkEnd w w mb L s i from ⟨Kp.refl mb w,hM⟩) _) _
 have f_t : AtH ((w.alloc (thB t)).alloc trZ) w.heap.size t := (AtH.new w t).al _
 have f_R : At3 ((w.alloc (thB t)).alloc trZ) (w.heap.size + 1) (.int .u8 0) (.int .u8 0) (.int .u8 0) := by
  have h := heap_alloc_new (w.alloc (thB t)) trZ
  simp only [sz_al] at h
  exact h
 have hsz : w.heap.size + 1 < ((w.alloc (thB t)).alloc trZ).heap.size := by simp only [sz_al]; omega
 obtain ⟨c0,c1,c2,c3,c4,c5,c6,c7,c8,c9,c10,c11⟩ := f_t.cs
 have HH : Hid _ := And.intro E0 (And.intro hsz f_R)
 clear E0 f_t f_R hM hsz
 go_enter Tryz.func50,Tryz.ntmps50
 go_wp2_with fail
 generalize (w.alloc (.cells #[rV t.a.x,rV t.a.y,rV t.a.w,rV t.b.x,rV t.b.y,rV t.b.w,rV t.c.x,rV t.c.y,rV t.c.w,rV t.d.x,rV t.d.y,rV t.d.w] 86)).alloc (.cells #[.int .u8 0,.int .u8 0,.int .u8 0] 84) = w0 at *
 clear c0 c1 c2 c3 c4 c5 c6 c7 c8 c9 c10 c11
 obtain ⟨E0,hsz,f_R⟩ := HH.out
 clear HH
 refine (mmid_any mb _ s i t.a t.b w0 E0.2 (hroom.mono (by omega)) h8.a h8.b).mono ?_
 rintro e w1 ⟨rfl,k1⟩
 have E1 := MkEnd.trans E0 k1
 replace f_R := At3.kp f_R k1.1
 replace hsz := Nat.lt_of_lt_of_le hsz k1.1.size
 have z0 := fz3 f_R 0
 have z1 := fz3 f_R 1
 have z2 := fz3 f_R 2
 obtain ⟨y0,y1,y2⟩ := cells3 f_R
 have HC : Hid _ := cells3 (set3_at (x' := rV (midR s).x) (y' := rV (midR s).y) (z' := rV (midR s).w) f_R)
 have HE : Hid _ := MkEnd.st (x' := rV (midR s).x) (y' := rV (midR s).y) (z' := rV (midR s).w) E1 f_R (by omega)
 clear k1 E0 E1 f_R hroom
 go_wp2_with fail
 obtain ⟨g0,g1,g2⟩ := HC.out
 unfold set3 at g0 g1 g2
 exact bodyPost_ret (v := trV (midR s)) (by simp [results,Tryz.results50,go_sem,g0,g1,g2]) rfl ⟨rfl,HE.out⟩
set_option maxHeartbeats 800000 in
theorem mcon_par (mb : Nat) (L : List Stp) (s i : Nat) (t : Th) (w : World) (hM : Mkr w mb L s i) (hroom : Room L s 7) (h8 : S12 t) :
  Calls Tryz.prog 50 #[mP mb,S [112,97,114],thV t] w fun e w' => e = .returned (trV (parR s)) ∧ MkEnd w w' mb (L ++ parL s t.a t.b) (s + 7) (i) := by
 have r2 := hroom.2
 have E0 : MkEnd w ((w.alloc (thB t)).alloc trZ) mb L s i := MkEnd.al (MkEnd.al (show MkEnd w w mb L s i from ⟨Kp.refl mb w,hM⟩) _) _
 have f_t : AtH ((w.alloc (thB t)).alloc trZ) w.heap.size t := (AtH.new w t).al _
 have f_R : At3 ((w.alloc (thB t)).alloc trZ) (w.heap.size + 1) (.int .u8 0) (.int .u8 0) (.int .u8 0) := by
  have h := heap_alloc_new (w.alloc (thB t)) trZ
  simp only [sz_al] at h
  exact h
 have hsz : w.heap.size + 1 < ((w.alloc (thB t)).alloc trZ).heap.size := by simp only [sz_al]; omega
 obtain ⟨c0,c1,c2,c3,c4,c5,c6,c7,c8,c9,c10,c11⟩ := f_t.cs
 have HH : Hid _ := And.intro E0 (And.intro hsz f_R)
 clear E0 f_t f_R hM hsz
 go_enter Tryz.func50,Tryz.ntmps50
 go_wp2_with fail
 generalize (w.alloc (.cells #[rV t.a.x,rV t.a.y,rV t.a.w,rV t.b.x,rV t.b.y,rV t.b.w,rV t.c.x,rV t.c.y,rV t.c.w,rV t.d.x,rV t.d.y,rV t.d.w] 86)).alloc (.cells #[.int .u8 0,.int .u8 0,.int .u8 0] 84) = w0 at *
 clear c0 c1 c2 c3 c4 c5 c6 c7 c8 c9 c10 c11
 obtain ⟨E0,hsz,f_R⟩ := HH.out
 clear HH
 refine (mpar_any mb _ s i t.a t.b w0 E0.2 (hroom.mono (by omega)) h8.a h8.b).mono ?_
 rintro e w1 ⟨rfl,k1⟩
 have E1 := MkEnd.trans E0 k1
 replace f_R := At3.kp f_R k1.1
 replace hsz := Nat.lt_of_lt_of_le hsz k1.1.size
 have z0 := fz3 f_R 0
 have z1 := fz3 f_R 1
 have z2 := fz3 f_R 2
 obtain ⟨y0,y1,y2⟩ := cells3 f_R
 have HC : Hid _ := cells3 (set3_at (x' := rV (parR s).x) (y' := rV (parR s).y) (z' := rV (parR s).w) f_R)
 have HE : Hid _ := MkEnd.st (x' := rV (parR s).x) (y' := rV (parR s).y) (z' := rV (parR s).w) E1 f_R (by omega)
 clear k1 E0 E1 f_R hroom
 go_wp2_with fail
 obtain ⟨g0,g1,g2⟩ := HC.out
 unfold set3 at g0 g1 g2
 exact bodyPost_ret (v := trV (parR s)) (by simp [results,Tryz.results50,go_sem,g0,g1,g2]) rfl ⟨rfl,HE.out⟩
set_option maxHeartbeats 800000 in
theorem mcon_perp (mb : Nat) (L : List Stp) (s i : Nat) (t : Th) (w : World) (hM : Mkr w mb L s i) (hroom : Room L s 9) (h8 : S12 t) :
  Calls Tryz.prog 50 #[mP mb,S [112,101,114,112],thV t] w fun e w' => e = .returned (trV (uprR s)) ∧ MkEnd w w' mb (L ++ uprL s t.a t.b) (s + 9) (i) := by
 have r2 := hroom.2
 have E0 : MkEnd w ((w.alloc (thB t)).alloc trZ) mb L s i := MkEnd.al (MkEnd.al (show MkEnd w w mb L s i from ⟨Kp.refl mb w,hM⟩) _) _
 have f_t : AtH ((w.alloc (thB t)).alloc trZ) w.heap.size t := (AtH.new w t).al _
 have f_R : At3 ((w.alloc (thB t)).alloc trZ) (w.heap.size + 1) (.int .u8 0) (.int .u8 0) (.int .u8 0) := by
  have h := heap_alloc_new (w.alloc (thB t)) trZ
  simp only [sz_al] at h
  exact h
 have hsz : w.heap.size + 1 < ((w.alloc (thB t)).alloc trZ).heap.size := by simp only [sz_al]; omega
 obtain ⟨c0,c1,c2,c3,c4,c5,c6,c7,c8,c9,c10,c11⟩ := f_t.cs
 have HH : Hid _ := And.intro E0 (And.intro hsz f_R)
 clear E0 f_t f_R hM hsz
 go_enter Tryz.func50,Tryz.ntmps50
 go_wp2_with fail
 generalize (w.alloc (.cells #[rV t.a.x,rV t.a.y,rV t.a.w,rV t.b.x,rV t.b.y,rV t.b.w,rV t.c.x,rV t.c.y,rV t.c.w,rV t.d.x,rV t.d.y,rV t.d.w] 86)).alloc (.cells #[.int .u8 0,.int .u8 0,.int .u8 0] 84) = w0 at *
 clear c0 c1 c2 c3 c4 c5 c6 c7 c8 c9 c10 c11
 obtain ⟨E0,hsz,f_R⟩ := HH.out
 clear HH
 refine (mupr_any mb _ s i t.a t.b w0 E0.2 (hroom.mono (by omega)) h8.a h8.b).mono ?_
 rintro e w1 ⟨rfl,k1⟩
 have E1 := MkEnd.trans E0 k1
 replace f_R := At3.kp f_R k1.1
 replace hsz := Nat.lt_of_lt_of_le hsz k1.1.size
 have z0 := fz3 f_R 0
 have z1 := fz3 f_R 1
 have z2 := fz3 f_R 2
 obtain ⟨y0,y1,y2⟩ := cells3 f_R
 have HC : Hid _ := cells3 (set3_at (x' := rV (uprR s).x) (y' := rV (uprR s).y) (z' := rV (uprR s).w) f_R)
 have HE : Hid _ := MkEnd.st (x' := rV (uprR s).x) (y' := rV (uprR s).y) (z' := rV (uprR s).w) E1 f_R (by omega)
 clear k1 E0 E1 f_R hroom
 go_wp2_with fail
 obtain ⟨g0,g1,g2⟩ := HC.out
 unfold set3 at g0 g1 g2
 exact bodyPost_ret (v := trV (uprR s)) (by simp [results,Tryz.results50,go_sem,g0,g1,g2]) rfl ⟨rfl,HE.out⟩
set_option maxHeartbeats 800000 in
theorem mcon_foot (mb : Nat) (L : List Stp) (s i : Nat) (t : Th) (w : World) (hM : Mkr w mb L s i) (hroom : Room L s 18) (h8 : S12 t) :
  Calls Tryz.prog 50 #[mP mb,S [102,111,111,116],thV t] w fun e w' => e = .returned (trV (footR s)) ∧ MkEnd w w' mb (L ++ footL s t.a t.b) (s + 18) (i) := by
 have r2 := hroom.2
 have E0 : MkEnd w ((w.alloc (thB t)).alloc trZ) mb L s i := MkEnd.al (MkEnd.al (show MkEnd w w mb L s i from ⟨Kp.refl mb w,hM⟩) _) _
 have f_t : AtH ((w.alloc (thB t)).alloc trZ) w.heap.size t := (AtH.new w t).al _
 have f_R : At3 ((w.alloc (thB t)).alloc trZ) (w.heap.size + 1) (.int .u8 0) (.int .u8 0) (.int .u8 0) := by
  have h := heap_alloc_new (w.alloc (thB t)) trZ
  simp only [sz_al] at h
  exact h
 have hsz : w.heap.size + 1 < ((w.alloc (thB t)).alloc trZ).heap.size := by simp only [sz_al]; omega
 obtain ⟨c0,c1,c2,c3,c4,c5,c6,c7,c8,c9,c10,c11⟩ := f_t.cs
 have HH : Hid _ := And.intro E0 (And.intro hsz f_R)
 clear E0 f_t f_R hM hsz
 go_enter Tryz.func50,Tryz.ntmps50
 go_wp2_with fail
 generalize (w.alloc (.cells #[rV t.a.x,rV t.a.y,rV t.a.w,rV t.b.x,rV t.b.y,rV t.b.w,rV t.c.x,rV t.c.y,rV t.c.w,rV t.d.x,rV t.d.y,rV t.d.w] 86)).alloc (.cells #[.int .u8 0,.int .u8 0,.int .u8 0] 84) = w0 at *
 clear c0 c1 c2 c3 c4 c5 c6 c7 c8 c9 c10 c11
 obtain ⟨E0,hsz,f_R⟩ := HH.out
 clear HH
 refine (mfoot_any mb _ s i t.a t.b w0 E0.2 (hroom.mono (by omega)) h8.a h8.b).mono ?_
 rintro e w1 ⟨rfl,k1⟩
 have E1 := MkEnd.trans E0 k1
 replace f_R := At3.kp f_R k1.1
 replace hsz := Nat.lt_of_lt_of_le hsz k1.1.size
 have z0 := fz3 f_R 0
 have z1 := fz3 f_R 1
 have z2 := fz3 f_R 2
 obtain ⟨y0,y1,y2⟩ := cells3 f_R
 have HC : Hid _ := cells3 (set3_at (x' := rV (footR s).x) (y' := rV (footR s).y) (z' := rV (footR s).w) f_R)
 have HE : Hid _ := MkEnd.st (x' := rV (footR s).x) (y' := rV (footR s).y) (z' := rV (footR s).w) E1 f_R (by omega)
 clear k1 E0 E1 f_R hroom
 go_wp2_with fail
 obtain ⟨g0,g1,g2⟩ := HC.out
 unfold set3 at g0 g1 g2
 exact bodyPost_ret (v := trV (footR s)) (by simp [results,Tryz.results50,go_sem,g0,g1,g2]) rfl ⟨rfl,HE.out⟩
set_option maxHeartbeats 800000 in
theorem mcon_mirror (mb : Nat) (L : List Stp) (s i : Nat) (t : Th) (w : World) (hM : Mkr w mb L s i) (hroom : Room L s 27) (h8 : S12 t) :
  Calls Tryz.prog 50 #[mP mb,S [109,105,114,114,111,114],thV t] w fun e w' => e = .returned (trV (mirR s)) ∧ MkEnd w w' mb (L ++ mirL s t.a t.b) (s + 27) (i) := by
 have r2 := hroom.2
 have E0 : MkEnd w ((w.alloc (thB t)).alloc trZ) mb L s i := MkEnd.al (MkEnd.al (show MkEnd w w mb L s i from ⟨Kp.refl mb w,hM⟩) _) _
 have f_t : AtH ((w.alloc (thB t)).alloc trZ) w.heap.size t := (AtH.new w t).al _
 have f_R : At3 ((w.alloc (thB t)).alloc trZ) (w.heap.size + 1) (.int .u8 0) (.int .u8 0) (.int .u8 0) := by
  have h := heap_alloc_new (w.alloc (thB t)) trZ
  simp only [sz_al] at h
  exact h
 have hsz : w.heap.size + 1 < ((w.alloc (thB t)).alloc trZ).heap.size := by simp only [sz_al]; omega
 obtain ⟨c0,c1,c2,c3,c4,c5,c6,c7,c8,c9,c10,c11⟩ := f_t.cs
 have HH : Hid _ := And.intro E0 (And.intro hsz f_R)
 clear E0 f_t f_R hM hsz
 go_enter Tryz.func50,Tryz.ntmps50
 go_wp2_with fail
 generalize (w.alloc (.cells #[rV t.a.x,rV t.a.y,rV t.a.w,rV t.b.x,rV t.b.y,rV t.b.w,rV t.c.x,rV t.c.y,rV t.c.w,rV t.d.x,rV t.d.y,rV t.d.w] 86)).alloc (.cells #[.int .u8 0,.int .u8 0,.int .u8 0] 84) = w0 at *
 clear c0 c1 c2 c3 c4 c5 c6 c7 c8 c9 c10 c11
 obtain ⟨E0,hsz,f_R⟩ := HH.out
 clear HH
 refine (mmir_any mb _ s i t.a t.b w0 E0.2 (hroom.mono (by omega)) h8.a h8.b).mono ?_
 rintro e w1 ⟨rfl,k1⟩
 have E1 := MkEnd.trans E0 k1
 replace f_R := At3.kp f_R k1.1
 replace hsz := Nat.lt_of_lt_of_le hsz k1.1.size
 have z0 := fz3 f_R 0
 have z1 := fz3 f_R 1
 have z2 := fz3 f_R 2
 obtain ⟨y0,y1,y2⟩ := cells3 f_R
 have HC : Hid _ := cells3 (set3_at (x' := rV (mirR s).x) (y' := rV (mirR s).y) (z' := rV (mirR s).w) f_R)
 have HE : Hid _ := MkEnd.st (x' := rV (mirR s).x) (y' := rV (mirR s).y) (z' := rV (mirR s).w) E1 f_R (by omega)
 clear k1 E0 E1 f_R hroom
 go_wp2_with fail
 obtain ⟨g0,g1,g2⟩ := HC.out
 unfold set3 at g0 g1 g2
 exact bodyPost_ret (v := trV (mirR s)) (by simp [results,Tryz.results50,go_sem,g0,g1,g2]) rfl ⟨rfl,HE.out⟩
set_option maxHeartbeats 800000 in
theorem mcon_centre (mb : Nat) (L : List Stp) (s i : Nat) (t : Th) (w : World) (hM : Mkr w mb L s i) (hroom : Room L s 61) (h8 : S12 t) :
  Calls Tryz.prog 50 #[mP mb,S [99,101,110,116,114,101],thV t] w fun e w' => e = .returned (trV (cenR s)) ∧ MkEnd w w' mb (L ++ cenL s t.a t.b t.c) (s + 61) (i) := by
 have r2 := hroom.2
 have E0 : MkEnd w ((w.alloc (thB t)).alloc trZ) mb L s i := MkEnd.al (MkEnd.al (show MkEnd w w mb L s i from ⟨Kp.refl mb w,hM⟩) _) _
 have f_t : AtH ((w.alloc (thB t)).alloc trZ) w.heap.size t := (AtH.new w t).al _
 have f_R : At3 ((w.alloc (thB t)).alloc trZ) (w.heap.size + 1) (.int .u8 0) (.int .u8 0) (.int .u8 0) := by
  have h := heap_alloc_new (w.alloc (thB t)) trZ
  simp only [sz_al] at h
  exact h
 have hsz : w.heap.size + 1 < ((w.alloc (thB t)).alloc trZ).heap.size := by simp only [sz_al]; omega
 obtain ⟨c0,c1,c2,c3,c4,c5,c6,c7,c8,c9,c10,c11⟩ := f_t.cs
 have HH : Hid _ := And.intro E0 (And.intro hsz f_R)
 clear E0 f_t f_R hM hsz
 go_enter Tryz.func50,Tryz.ntmps50
 go_wp2_with fail
 generalize (w.alloc (.cells #[rV t.a.x,rV t.a.y,rV t.a.w,rV t.b.x,rV t.b.y,rV t.b.w,rV t.c.x,rV t.c.y,rV t.c.w,rV t.d.x,rV t.d.y,rV t.d.w] 86)).alloc (.cells #[.int .u8 0,.int .u8 0,.int .u8 0] 84) = w0 at *
 clear c0 c1 c2 c3 c4 c5 c6 c7 c8 c9 c10 c11
 obtain ⟨E0,hsz,f_R⟩ := HH.out
 clear HH
 refine (mcen_any mb _ s i t.a t.b t.c w0 E0.2 (hroom.mono (by omega)) h8.a h8.b h8.c).mono ?_
 rintro e w1 ⟨rfl,k1⟩
 have E1 := MkEnd.trans E0 k1
 replace f_R := At3.kp f_R k1.1
 replace hsz := Nat.lt_of_lt_of_le hsz k1.1.size
 have z0 := fz3 f_R 0
 have z1 := fz3 f_R 1
 have z2 := fz3 f_R 2
 obtain ⟨y0,y1,y2⟩ := cells3 f_R
 have HC : Hid _ := cells3 (set3_at (x' := rV (cenR s).x) (y' := rV (cenR s).y) (z' := rV (cenR s).w) f_R)
 have HE : Hid _ := MkEnd.st (x' := rV (cenR s).x) (y' := rV (cenR s).y) (z' := rV (cenR s).w) E1 f_R (by omega)
 clear k1 E0 E1 f_R hroom
 go_wp2_with fail
 obtain ⟨g0,g1,g2⟩ := HC.out
 unfold set3 at g0 g1 g2
 exact bodyPost_ret (v := trV (cenR s)) (by simp [results,Tryz.results50,go_sem,g0,g1,g2]) rfl ⟨rfl,HE.out⟩
set_option maxHeartbeats 800000 in
theorem mcon_line (mb : Nat) (L : List Stp) (s i : Nat) (t : Th) (w : World) (hM : Mkr w mb L s i) (hroom : Room L s 9) (h8 : S12 t) :
  Calls Tryz.prog 50 #[mP mb,S [108,105,110,101],thV t] w fun e w' => e = .returned (trV (crossR s)) ∧ MkEnd w w' mb (L ++ crossL s t.a t.b) (s + 9) (i) := by
 have r2 := hroom.2
 have E0 : MkEnd w ((w.alloc (thB t)).alloc trZ) mb L s i := MkEnd.al (MkEnd.al (show MkEnd w w mb L s i from ⟨Kp.refl mb w,hM⟩) _) _
 have f_t : AtH ((w.alloc (thB t)).alloc trZ) w.heap.size t := (AtH.new w t).al _
 have f_R : At3 ((w.alloc (thB t)).alloc trZ) (w.heap.size + 1) (.int .u8 0) (.int .u8 0) (.int .u8 0) := by
  have h := heap_alloc_new (w.alloc (thB t)) trZ
  simp only [sz_al] at h
  exact h
 have hsz : w.heap.size + 1 < ((w.alloc (thB t)).alloc trZ).heap.size := by simp only [sz_al]; omega
 obtain ⟨c0,c1,c2,c3,c4,c5,c6,c7,c8,c9,c10,c11⟩ := f_t.cs
 have HH : Hid _ := And.intro E0 (And.intro hsz f_R)
 clear E0 f_t f_R hM hsz
 go_enter Tryz.func50,Tryz.ntmps50
 go_wp2_with fail
 generalize (w.alloc (.cells #[rV t.a.x,rV t.a.y,rV t.a.w,rV t.b.x,rV t.b.y,rV t.b.w,rV t.c.x,rV t.c.y,rV t.c.w,rV t.d.x,rV t.d.y,rV t.d.w] 86)).alloc (.cells #[.int .u8 0,.int .u8 0,.int .u8 0] 84) = w0 at *
 clear c0 c1 c2 c3 c4 c5 c6 c7 c8 c9 c10 c11
 obtain ⟨E0,hsz,f_R⟩ := HH.out
 clear HH
 refine (mcross_any mb _ s i t.a t.b w0 E0.2 (hroom.mono (by omega)) h8.a h8.b).mono ?_
 rintro e w1 ⟨rfl,k1⟩
 have E1 := MkEnd.trans E0 k1
 replace f_R := At3.kp f_R k1.1
 replace hsz := Nat.lt_of_lt_of_le hsz k1.1.size
 have z0 := fz3 f_R 0
 have z1 := fz3 f_R 1
 have z2 := fz3 f_R 2
 obtain ⟨y0,y1,y2⟩ := cells3 f_R
 have HC : Hid _ := cells3 (set3_at (x' := rV (crossR s).x) (y' := rV (crossR s).y) (z' := rV (crossR s).w) f_R)
 have HE : Hid _ := MkEnd.st (x' := rV (crossR s).x) (y' := rV (crossR s).y) (z' := rV (crossR s).w) E1 f_R (by omega)
 clear k1 E0 E1 f_R hroom
 go_wp2_with fail
 obtain ⟨g0,g1,g2⟩ := HC.out
 unfold set3 at g0 g1 g2
 exact bodyPost_ret (v := trV (crossR s)) (by simp [results,Tryz.results50,go_sem,g0,g1,g2]) rfl ⟨rfl,HE.out⟩
set_option maxHeartbeats 800000 in
theorem mcon_meet (mb : Nat) (L : List Stp) (s i : Nat) (t : Th) (w : World) (hM : Mkr w mb L s i) (hroom : Room L s 9) (h8 : S12 t) :
  Calls Tryz.prog 50 #[mP mb,S [109,101,101,116],thV t] w fun e w' => e = .returned (trV (crossR s)) ∧ MkEnd w w' mb (L ++ crossL s t.a t.b) (s + 9) (i) := by
 have r2 := hroom.2
 have E0 : MkEnd w ((w.alloc (thB t)).alloc trZ) mb L s i := MkEnd.al (MkEnd.al (show MkEnd w w mb L s i from ⟨Kp.refl mb w,hM⟩) _) _
 have f_t : AtH ((w.alloc (thB t)).alloc trZ) w.heap.size t := (AtH.new w t).al _
 have f_R : At3 ((w.alloc (thB t)).alloc trZ) (w.heap.size + 1) (.int .u8 0) (.int .u8 0) (.int .u8 0) := by
  have h := heap_alloc_new (w.alloc (thB t)) trZ
  simp only [sz_al] at h
  exact h
 have hsz : w.heap.size + 1 < ((w.alloc (thB t)).alloc trZ).heap.size := by simp only [sz_al]; omega
 obtain ⟨c0,c1,c2,c3,c4,c5,c6,c7,c8,c9,c10,c11⟩ := f_t.cs
 have HH : Hid _ := And.intro E0 (And.intro hsz f_R)
 clear E0 f_t f_R hM hsz
 go_enter Tryz.func50,Tryz.ntmps50
 go_wp2_with fail
 generalize (w.alloc (.cells #[rV t.a.x,rV t.a.y,rV t.a.w,rV t.b.x,rV t.b.y,rV t.b.w,rV t.c.x,rV t.c.y,rV t.c.w,rV t.d.x,rV t.d.y,rV t.d.w] 86)).alloc (.cells #[.int .u8 0,.int .u8 0,.int .u8 0] 84) = w0 at *
 clear c0 c1 c2 c3 c4 c5 c6 c7 c8 c9 c10 c11
 obtain ⟨E0,hsz,f_R⟩ := HH.out
 clear HH
 refine (mcross_any mb _ s i t.a t.b w0 E0.2 (hroom.mono (by omega)) h8.a h8.b).mono ?_
 rintro e w1 ⟨rfl,k1⟩
 have E1 := MkEnd.trans E0 k1
 replace f_R := At3.kp f_R k1.1
 replace hsz := Nat.lt_of_lt_of_le hsz k1.1.size
 have z0 := fz3 f_R 0
 have z1 := fz3 f_R 1
 have z2 := fz3 f_R 2
 obtain ⟨y0,y1,y2⟩ := cells3 f_R
 have HC : Hid _ := cells3 (set3_at (x' := rV (crossR s).x) (y' := rV (crossR s).y) (z' := rV (crossR s).w) f_R)
 have HE : Hid _ := MkEnd.st (x' := rV (crossR s).x) (y' := rV (crossR s).y) (z' := rV (crossR s).w) E1 f_R (by omega)
 clear k1 E0 E1 f_R hroom
 go_wp2_with fail
 obtain ⟨g0,g1,g2⟩ := HC.out
 unfold set3 at g0 g1 g2
 exact bodyPost_ret (v := trV (crossR s)) (by simp [results,Tryz.results50,go_sem,g0,g1,g2]) rfl ⟨rfl,HE.out⟩
set_option maxHeartbeats 800000 in
theorem mgrd_line (mb : Nat) (L : List Stp) (s i : Nat) (m : Tr) (k : Nat) (w : World) (hM : Mkr w mb L s i) (hroom : Room L s 4) (h8 : S8 m) (hk : k < 16) :
  Calls Tryz.prog 51 #[mP mb,S [108,105,110,101],trV m,.int .i64 k] w fun e w' => e = .returned (.tuple #[]) ∧ MkEnd w w' mb (L ++ (prodS s m.x m.x m.y m.y ++ [⟨7,s + 2,0,k⟩])) (s + 3) i := by
 have r2 := hroom.2
 have wk : IntKind.u8.wrap (k : Int) = (k : Int) := by simp [IntKind.wrap,IntKind.signed,IntKind.bits]; omega
 have E0 : MkEnd w (w.alloc (trO m)) mb L s i := MkEnd.al (show MkEnd w w mb L s i from ⟨Kp.refl mb w,hM⟩) _
 have f_m : AtT (w.alloc (trO m)) w.heap.size m := heap_alloc_new w _
 obtain ⟨c0,c1,c2⟩ := cells3 f_m
 have HH : Hid _ := And.intro E0 f_m
 clear E0 f_m hM
 go_enter Tryz.func51,Tryz.ntmps51
 go_wp2_with fail
 generalize w.alloc (.cells #[rV m.x,rV m.y,rV m.w] 84) = w0 at *
 clear c0 c1 c2
 obtain ⟨E0,f_m⟩ := HH.out
 clear HH
 refine (mpS_any mb _ s i m.x m.x m.y m.y w0 E0.2 (hroom.mono (by omega)) h8.1 h8.1 h8.2.1 h8.2.1).mono ?_
 rintro e w1 ⟨he,k1⟩
 obtain ⟨v,hv⟩ : ∃ x : Nat,x = s + 2 := ⟨_,rfl⟩
 have he2 : e = .returned (rV v) := by rw [hv]; exact he
 have b_v : v < 256 := by omega
 have Hv : Hid (v = s + 2) := hv
 clear he hv
 subst he2
 have E1 := MkEnd.trans E0 k1
 have HH : Hid _ := E1
 clear k1 E0 E1 f_m
 go_wp2_with fail
 have E1 := HH.out
 clear HH
 refine (madd_any mb _ (s + 3) i ⟨7,v,0,k⟩ w1 E1.2 (by have := hroom.1; simp [prodS]; omega) ⟨by show 7 < 256; omega,b_v,by show 0 < 256; omega,by show k < 256; omega⟩).mono ?_
 rintro e w2 ⟨rfl,k2,m2⟩
 have HE : Hid _ := MkEnd.trans E1 (show MkEnd w1 w2 mb _ (s + 3) i from ⟨k2,m2⟩)
 clear k2 m2 E1
 go_wp2_with fail
 have hL : L ++ prodS s m.x m.x m.y m.y ++ [⟨7,v,0,k⟩] = L ++ (prodS s m.x m.x m.y m.y ++ [⟨7,s + 2,0,k⟩]) := by rw [Hv.out,List.append_assoc]
 exact bodyPost_end (v := .tuple #[]) (by simp [results,Tryz.results51]) rfl ⟨rfl,by rw [← hL]; exact HE.out⟩
set_option maxHeartbeats 800000 in
theorem mgrd_meet (mb : Nat) (L : List Stp) (s i : Nat) (m : Tr) (k : Nat) (w : World) (hM : Mkr w mb L s i) (hroom : Room L s 4) (h8 : S8 m) (hk : k < 16) :
  Calls Tryz.prog 51 #[mP mb,S [109,101,101,116],trV m,.int .i64 k] w fun e w' => e = .returned (.tuple #[]) ∧ MkEnd w w' mb (L ++ [⟨7,m.w,1,k⟩]) (s + 0) i := by
 have r2 := hroom.2
 have wk : IntKind.u8.wrap (k : Int) = (k : Int) := by simp [IntKind.wrap,IntKind.signed,IntKind.bits]; omega
 have E0 : MkEnd w (w.alloc (trO m)) mb L s i := MkEnd.al (show MkEnd w w mb L s i from ⟨Kp.refl mb w,hM⟩) _
 have f_m : AtT (w.alloc (trO m)) w.heap.size m := heap_alloc_new w _
 obtain ⟨c0,c1,c2⟩ := cells3 f_m
 have HH : Hid _ := And.intro E0 f_m
 clear E0 f_m hM
 go_enter Tryz.func51,Tryz.ntmps51
 go_wp2_with fail
 generalize w.alloc (.cells #[rV m.x,rV m.y,rV m.w] 84) = w0 at *
 clear c0 c1 c2
 obtain ⟨E0,f_m⟩ := HH.out
 clear HH
 refine (madd_any mb _ s i ⟨7,m.w,1,k⟩ w0 E0.2 (by have := hroom.1; omega) ⟨by show 7 < 256; omega,h8.2.2,by show 1 < 256; omega,by show k < 256; omega⟩).mono ?_
 rintro e w1 ⟨rfl,k1,m1⟩
 have HE : Hid _ := MkEnd.trans E0 (show MkEnd w0 w1 mb _ s i from ⟨k1,m1⟩)
 clear k1 m1 E0 f_m
 go_wp2_with fail
 exact bodyPost_end (v := .tuple #[]) (by simp [results,Tryz.results51]) rfl ⟨rfl,HE.out⟩
set_option maxHeartbeats 800000 in
theorem mgrd_centre (mb : Nat) (L : List Stp) (s i : Nat) (m : Tr) (k : Nat) (w : World) (hM : Mkr w mb L s i) (hroom : Room L s 4) (h8 : S8 m) (hk : k < 16) :
  Calls Tryz.prog 51 #[mP mb,S [99,101,110,116,114,101],trV m,.int .i64 k] w fun e w' => e = .returned (.tuple #[]) ∧ MkEnd w w' mb (L ++ [⟨7,m.w,2,k⟩]) (s + 0) i := by
 have r2 := hroom.2
 have wk : IntKind.u8.wrap (k : Int) = (k : Int) := by simp [IntKind.wrap,IntKind.signed,IntKind.bits]; omega
 have E0 : MkEnd w (w.alloc (trO m)) mb L s i := MkEnd.al (show MkEnd w w mb L s i from ⟨Kp.refl mb w,hM⟩) _
 have f_m : AtT (w.alloc (trO m)) w.heap.size m := heap_alloc_new w _
 obtain ⟨c0,c1,c2⟩ := cells3 f_m
 have HH : Hid _ := And.intro E0 f_m
 clear E0 f_m hM
 go_enter Tryz.func51,Tryz.ntmps51
 go_wp2_with fail
 generalize w.alloc (.cells #[rV m.x,rV m.y,rV m.w] 84) = w0 at *
 clear c0 c1 c2
 obtain ⟨E0,f_m⟩ := HH.out
 clear HH
 refine (madd_any mb _ s i ⟨7,m.w,2,k⟩ w0 E0.2 (by have := hroom.1; omega) ⟨by show 7 < 256; omega,h8.2.2,by show 2 < 256; omega,by show k < 256; omega⟩).mono ?_
 rintro e w1 ⟨rfl,k1,m1⟩
 have HE : Hid _ := MkEnd.trans E0 (show MkEnd w0 w1 mb _ s i from ⟨k1,m1⟩)
 clear k1 m1 E0 f_m
 go_wp2_with fail
 exact bodyPost_end (v := .tuple #[]) (by simp [results,Tryz.results51]) rfl ⟨rfl,HE.out⟩
set_option maxHeartbeats 800000 in
theorem mgrd_pt (mb : Nat) (L : List Stp) (s i : Nat) (m : Tr) (k : Nat) (w : World) (hM : Mkr w mb L s i) (_hroom : Room L s 4) (_h8 : S8 m) (_hk : k < 16) :
  Calls Tryz.prog 51 #[mP mb,S [112,116],trV m,.int .i64 k] w fun e w' => e = .returned (.tuple #[]) ∧ MkEnd w w' mb (L ++ []) (s + 0) i := by
 have E0 : MkEnd w (w.alloc (trO m)) mb L s i := MkEnd.al (show MkEnd w w mb L s i from ⟨Kp.refl mb w,hM⟩) _
 have f_m : AtT (w.alloc (trO m)) w.heap.size m := heap_alloc_new w _
 obtain ⟨c0,c1,c2⟩ := cells3 f_m
 have HH : Hid _ := And.intro E0 f_m
 clear E0 f_m hM
 go_enter Tryz.func51,Tryz.ntmps51
 go_wp2_with fail
 generalize w.alloc (.cells #[rV m.x,rV m.y,rV m.w] 84) = w0 at *
 clear c0 c1 c2
 obtain ⟨E0,f_m⟩ := HH.out
 clear HH
 exact bodyPost_end (v := .tuple #[]) (by simp [results,Tryz.results51]) rfl ⟨rfl,by rw [List.append_nil]; exact E0⟩
set_option maxHeartbeats 800000 in
theorem mgrd_mid (mb : Nat) (L : List Stp) (s i : Nat) (m : Tr) (k : Nat) (w : World) (hM : Mkr w mb L s i) (_hroom : Room L s 4) (_h8 : S8 m) (_hk : k < 16) :
  Calls Tryz.prog 51 #[mP mb,S [109,105,100],trV m,.int .i64 k] w fun e w' => e = .returned (.tuple #[]) ∧ MkEnd w w' mb (L ++ []) (s + 0) i := by
 have E0 : MkEnd w (w.alloc (trO m)) mb L s i := MkEnd.al (show MkEnd w w mb L s i from ⟨Kp.refl mb w,hM⟩) _
 have f_m : AtT (w.alloc (trO m)) w.heap.size m := heap_alloc_new w _
 obtain ⟨c0,c1,c2⟩ := cells3 f_m
 have HH : Hid _ := And.intro E0 f_m
 clear E0 f_m hM
 go_enter Tryz.func51,Tryz.ntmps51
 go_wp2_with fail
 generalize w.alloc (.cells #[rV m.x,rV m.y,rV m.w] 84) = w0 at *
 clear c0 c1 c2
 obtain ⟨E0,f_m⟩ := HH.out
 clear HH
 exact bodyPost_end (v := .tuple #[]) (by simp [results,Tryz.results51]) rfl ⟨rfl,by rw [List.append_nil]; exact E0⟩
set_option maxHeartbeats 800000 in
theorem mgrd_par (mb : Nat) (L : List Stp) (s i : Nat) (m : Tr) (k : Nat) (w : World) (hM : Mkr w mb L s i) (_hroom : Room L s 4) (_h8 : S8 m) (_hk : k < 16) :
  Calls Tryz.prog 51 #[mP mb,S [112,97,114],trV m,.int .i64 k] w fun e w' => e = .returned (.tuple #[]) ∧ MkEnd w w' mb (L ++ []) (s + 0) i := by
 have E0 : MkEnd w (w.alloc (trO m)) mb L s i := MkEnd.al (show MkEnd w w mb L s i from ⟨Kp.refl mb w,hM⟩) _
 have f_m : AtT (w.alloc (trO m)) w.heap.size m := heap_alloc_new w _
 obtain ⟨c0,c1,c2⟩ := cells3 f_m
 have HH : Hid _ := And.intro E0 f_m
 clear E0 f_m hM
 go_enter Tryz.func51,Tryz.ntmps51
 go_wp2_with fail
 generalize w.alloc (.cells #[rV m.x,rV m.y,rV m.w] 84) = w0 at *
 clear c0 c1 c2
 obtain ⟨E0,f_m⟩ := HH.out
 clear HH
 exact bodyPost_end (v := .tuple #[]) (by simp [results,Tryz.results51]) rfl ⟨rfl,by rw [List.append_nil]; exact E0⟩
set_option maxHeartbeats 800000 in
theorem mgrd_perp (mb : Nat) (L : List Stp) (s i : Nat) (m : Tr) (k : Nat) (w : World) (hM : Mkr w mb L s i) (_hroom : Room L s 4) (_h8 : S8 m) (_hk : k < 16) :
  Calls Tryz.prog 51 #[mP mb,S [112,101,114,112],trV m,.int .i64 k] w fun e w' => e = .returned (.tuple #[]) ∧ MkEnd w w' mb (L ++ []) (s + 0) i := by
 have E0 : MkEnd w (w.alloc (trO m)) mb L s i := MkEnd.al (show MkEnd w w mb L s i from ⟨Kp.refl mb w,hM⟩) _
 have f_m : AtT (w.alloc (trO m)) w.heap.size m := heap_alloc_new w _
 obtain ⟨c0,c1,c2⟩ := cells3 f_m
 have HH : Hid _ := And.intro E0 f_m
 clear E0 f_m hM
 go_enter Tryz.func51,Tryz.ntmps51
 go_wp2_with fail
 generalize w.alloc (.cells #[rV m.x,rV m.y,rV m.w] 84) = w0 at *
 clear c0 c1 c2
 obtain ⟨E0,f_m⟩ := HH.out
 clear HH
 exact bodyPost_end (v := .tuple #[]) (by simp [results,Tryz.results51]) rfl ⟨rfl,by rw [List.append_nil]; exact E0⟩
set_option maxHeartbeats 800000 in
theorem mgrd_foot (mb : Nat) (L : List Stp) (s i : Nat) (m : Tr) (k : Nat) (w : World) (hM : Mkr w mb L s i) (_hroom : Room L s 4) (_h8 : S8 m) (_hk : k < 16) :
  Calls Tryz.prog 51 #[mP mb,S [102,111,111,116],trV m,.int .i64 k] w fun e w' => e = .returned (.tuple #[]) ∧ MkEnd w w' mb (L ++ []) (s + 0) i := by
 have E0 : MkEnd w (w.alloc (trO m)) mb L s i := MkEnd.al (show MkEnd w w mb L s i from ⟨Kp.refl mb w,hM⟩) _
 have f_m : AtT (w.alloc (trO m)) w.heap.size m := heap_alloc_new w _
 obtain ⟨c0,c1,c2⟩ := cells3 f_m
 have HH : Hid _ := And.intro E0 f_m
 clear E0 f_m hM
 go_enter Tryz.func51,Tryz.ntmps51
 go_wp2_with fail
 generalize w.alloc (.cells #[rV m.x,rV m.y,rV m.w] 84) = w0 at *
 clear c0 c1 c2
 obtain ⟨E0,f_m⟩ := HH.out
 clear HH
 exact bodyPost_end (v := .tuple #[]) (by simp [results,Tryz.results51]) rfl ⟨rfl,by rw [List.append_nil]; exact E0⟩
set_option maxHeartbeats 800000 in
theorem mgrd_mirror (mb : Nat) (L : List Stp) (s i : Nat) (m : Tr) (k : Nat) (w : World) (hM : Mkr w mb L s i) (_hroom : Room L s 4) (_h8 : S8 m) (_hk : k < 16) :
  Calls Tryz.prog 51 #[mP mb,S [109,105,114,114,111,114],trV m,.int .i64 k] w fun e w' => e = .returned (.tuple #[]) ∧ MkEnd w w' mb (L ++ []) (s + 0) i := by
 have E0 : MkEnd w (w.alloc (trO m)) mb L s i := MkEnd.al (show MkEnd w w mb L s i from ⟨Kp.refl mb w,hM⟩) _
 have f_m : AtT (w.alloc (trO m)) w.heap.size m := heap_alloc_new w _
 obtain ⟨c0,c1,c2⟩ := cells3 f_m
 have HH : Hid _ := And.intro E0 f_m
 clear E0 f_m hM
 go_enter Tryz.func51,Tryz.ntmps51
 go_wp2_with fail
 generalize w.alloc (.cells #[rV m.x,rV m.y,rV m.w] 84) = w0 at *
 clear c0 c1 c2
 obtain ⟨E0,f_m⟩ := HH.out
 clear HH
 exact bodyPost_end (v := .tuple #[]) (by simp [results,Tryz.results51]) rfl ⟨rfl,by rw [List.append_nil]; exact E0⟩
set_option maxHeartbeats 400000 in
theorem home_any (k : Nat) (hk : k < 16) (w : World) : Calls Tryz.prog 78 #[.int .i64 k] w fun e w' => e = .returned (trV (hm k)) ∧ Mod (fun _ => False) w w' := by
 obtain ⟨m,hm0⟩ : ∃ m : Nat,m = 3 * k := ⟨_,rfl⟩
 obtain ⟨m1,hm1⟩ : ∃ m1 : Nat,m1 = m + 1 := ⟨_,rfl⟩
 obtain ⟨m2,hm2⟩ : ∃ m2 : Nat,m2 = m + 2 := ⟨_,rfl⟩
 have w0 : IntKind.i64.wrap (3 * (k : Int)) = (m : Int) := by simp [IntKind.wrap,IntKind.signed,IntKind.bits]; omega
 have w1 : IntKind.u8.wrap (m : Int) = (m : Int) := by simp [IntKind.wrap,IntKind.signed,IntKind.bits]; omega
 have w2 : IntKind.u8.wrap ((m : Int) + 1) = (m1 : Int) := by simp [IntKind.wrap,IntKind.signed,IntKind.bits]; omega
 have w3 : IntKind.u8.wrap ((m : Int) + 2) = (m2 : Int) := by simp [IntKind.wrap,IntKind.signed,IntKind.bits]; omega
 have HR : Hid ((.agg #[rV m,rV m1,rV m2] : Value) = trV (hm k)) := by show _ = _; rw [hm2,hm1,hm0]; rfl
 clear hm0 hm1 hm2 hk
 go_enter Tryz.func78,Tryz.ntmps78
 go_wp2_with fail
 exact bodyPost_ret (v := .agg #[rV m,rV m1,rV m2]) (by simp [results,Tryz.results78,go_sem]) rfl ⟨by rw [HR.out],(Mod.refl _ w).alloc _⟩
set_option maxHeartbeats 800000 in
theorem mfac_pt (mb : Nat) (L : List Stp) (s i : Nat) (m : Tr) (w : World) (hM : Mkr w mb L s i) (hroom : Room L s 4) (h8 : S8 m) :
  Calls Tryz.prog 92 #[mP mb,S [112,116],trV m] w fun e w' => e = .returned (rV s) ∧ MkEnd w w' mb (L ++ [⟨5,s,m.w,0⟩]) (s + 1) i := by
 have E0 : MkEnd w (w.alloc (trO m)) mb L s i := MkEnd.al (show MkEnd w w mb L s i from ⟨Kp.refl mb w,hM⟩) _
 have f_m : AtT (w.alloc (trO m)) w.heap.size m := heap_alloc_new w _
 obtain ⟨c0,c1,c2⟩ := cells3 f_m
 have HH : Hid _ := E0
 clear E0 f_m hM
 go_enter Tryz.func92,Tryz.ntmps92
 go_wp2_with (go_at_call 122; go_in)
 generalize w.alloc (.cells #[rV m.x,rV m.y,rV m.w] 84) = w0 at *
 clear c0 c1 c2
 have E0 := HH.out
 clear HH
 refine (msgn_any mb _ s i m.w w0 E0.2 (hroom.mono (by omega)) h8.2.2).mono ?_
 rintro e w1 ⟨rfl,k1⟩
 have HE : Hid _ := MkEnd.trans E0 k1
 clear k1 E0
 go_wp2_with fail
 go_ret
 exact ⟨rfl,HE.out⟩
set_option maxHeartbeats 800000 in
theorem mfac_mid (mb : Nat) (L : List Stp) (s i : Nat) (m : Tr) (w : World) (hM : Mkr w mb L s i) (hroom : Room L s 4) (h8 : S8 m) :
  Calls Tryz.prog 92 #[mP mb,S [109,105,100],trV m] w fun e w' => e = .returned (rV s) ∧ MkEnd w w' mb (L ++ [⟨5,s,m.w,0⟩]) (s + 1) i := by
 have E0 : MkEnd w (w.alloc (trO m)) mb L s i := MkEnd.al (show MkEnd w w mb L s i from ⟨Kp.refl mb w,hM⟩) _
 have f_m : AtT (w.alloc (trO m)) w.heap.size m := heap_alloc_new w _
 obtain ⟨c0,c1,c2⟩ := cells3 f_m
 have HH : Hid _ := E0
 clear E0 f_m hM
 go_enter Tryz.func92,Tryz.ntmps92
 go_wp2_with (go_at_call 122; go_in)
 generalize w.alloc (.cells #[rV m.x,rV m.y,rV m.w] 84) = w0 at *
 clear c0 c1 c2
 have E0 := HH.out
 clear HH
 refine (msgn_any mb _ s i m.w w0 E0.2 (hroom.mono (by omega)) h8.2.2).mono ?_
 rintro e w1 ⟨rfl,k1⟩
 have HE : Hid _ := MkEnd.trans E0 k1
 clear k1 E0
 go_wp2_with fail
 go_ret
 exact ⟨rfl,HE.out⟩
set_option maxHeartbeats 800000 in
theorem mfac_meet (mb : Nat) (L : List Stp) (s i : Nat) (m : Tr) (w : World) (hM : Mkr w mb L s i) (hroom : Room L s 4) (h8 : S8 m) :
  Calls Tryz.prog 92 #[mP mb,S [109,101,101,116],trV m] w fun e w' => e = .returned (rV s) ∧ MkEnd w w' mb (L ++ [⟨5,s,m.w,0⟩]) (s + 1) i := by
 have E0 : MkEnd w (w.alloc (trO m)) mb L s i := MkEnd.al (show MkEnd w w mb L s i from ⟨Kp.refl mb w,hM⟩) _
 have f_m : AtT (w.alloc (trO m)) w.heap.size m := heap_alloc_new w _
 obtain ⟨c0,c1,c2⟩ := cells3 f_m
 have HH : Hid _ := E0
 clear E0 f_m hM
 go_enter Tryz.func92,Tryz.ntmps92
 go_wp2_with (go_at_call 122; go_in)
 generalize w.alloc (.cells #[rV m.x,rV m.y,rV m.w] 84) = w0 at *
 clear c0 c1 c2
 have E0 := HH.out
 clear HH
 refine (msgn_any mb _ s i m.w w0 E0.2 (hroom.mono (by omega)) h8.2.2).mono ?_
 rintro e w1 ⟨rfl,k1⟩
 have HE : Hid _ := MkEnd.trans E0 k1
 clear k1 E0
 go_wp2_with fail
 go_ret
 exact ⟨rfl,HE.out⟩
set_option maxHeartbeats 800000 in
theorem mfac_foot (mb : Nat) (L : List Stp) (s i : Nat) (m : Tr) (w : World) (hM : Mkr w mb L s i) (hroom : Room L s 4) (h8 : S8 m) :
  Calls Tryz.prog 92 #[mP mb,S [102,111,111,116],trV m] w fun e w' => e = .returned (rV s) ∧ MkEnd w w' mb (L ++ [⟨5,s,m.w,0⟩]) (s + 1) i := by
 have E0 : MkEnd w (w.alloc (trO m)) mb L s i := MkEnd.al (show MkEnd w w mb L s i from ⟨Kp.refl mb w,hM⟩) _
 have f_m : AtT (w.alloc (trO m)) w.heap.size m := heap_alloc_new w _
 obtain ⟨c0,c1,c2⟩ := cells3 f_m
 have HH : Hid _ := E0
 clear E0 f_m hM
 go_enter Tryz.func92,Tryz.ntmps92
 go_wp2_with (go_at_call 122; go_in)
 generalize w.alloc (.cells #[rV m.x,rV m.y,rV m.w] 84) = w0 at *
 clear c0 c1 c2
 have E0 := HH.out
 clear HH
 refine (msgn_any mb _ s i m.w w0 E0.2 (hroom.mono (by omega)) h8.2.2).mono ?_
 rintro e w1 ⟨rfl,k1⟩
 have HE : Hid _ := MkEnd.trans E0 k1
 clear k1 E0
 go_wp2_with fail
 go_ret
 exact ⟨rfl,HE.out⟩
set_option maxHeartbeats 800000 in
theorem mfac_mirror (mb : Nat) (L : List Stp) (s i : Nat) (m : Tr) (w : World) (hM : Mkr w mb L s i) (hroom : Room L s 4) (h8 : S8 m) :
  Calls Tryz.prog 92 #[mP mb,S [109,105,114,114,111,114],trV m] w fun e w' => e = .returned (rV s) ∧ MkEnd w w' mb (L ++ [⟨5,s,m.w,0⟩]) (s + 1) i := by
 have E0 : MkEnd w (w.alloc (trO m)) mb L s i := MkEnd.al (show MkEnd w w mb L s i from ⟨Kp.refl mb w,hM⟩) _
 have f_m : AtT (w.alloc (trO m)) w.heap.size m := heap_alloc_new w _
 obtain ⟨c0,c1,c2⟩ := cells3 f_m
 have HH : Hid _ := E0
 clear E0 f_m hM
 go_enter Tryz.func92,Tryz.ntmps92
 go_wp2_with (go_at_call 122; go_in)
 generalize w.alloc (.cells #[rV m.x,rV m.y,rV m.w] 84) = w0 at *
 clear c0 c1 c2
 have E0 := HH.out
 clear HH
 refine (msgn_any mb _ s i m.w w0 E0.2 (hroom.mono (by omega)) h8.2.2).mono ?_
 rintro e w1 ⟨rfl,k1⟩
 have HE : Hid _ := MkEnd.trans E0 k1
 clear k1 E0
 go_wp2_with fail
 go_ret
 exact ⟨rfl,HE.out⟩
set_option maxHeartbeats 800000 in
theorem mfac_centre (mb : Nat) (L : List Stp) (s i : Nat) (m : Tr) (w : World) (hM : Mkr w mb L s i) (hroom : Room L s 4) (h8 : S8 m) :
  Calls Tryz.prog 92 #[mP mb,S [99,101,110,116,114,101],trV m] w fun e w' => e = .returned (rV s) ∧ MkEnd w w' mb (L ++ [⟨5,s,m.w,0⟩]) (s + 1) i := by
 have E0 : MkEnd w (w.alloc (trO m)) mb L s i := MkEnd.al (show MkEnd w w mb L s i from ⟨Kp.refl mb w,hM⟩) _
 have f_m : AtT (w.alloc (trO m)) w.heap.size m := heap_alloc_new w _
 obtain ⟨c0,c1,c2⟩ := cells3 f_m
 have HH : Hid _ := E0
 clear E0 f_m hM
 go_enter Tryz.func92,Tryz.ntmps92
 go_wp2_with (go_at_call 122; go_in)
 generalize w.alloc (.cells #[rV m.x,rV m.y,rV m.w] 84) = w0 at *
 clear c0 c1 c2
 have E0 := HH.out
 clear HH
 refine (msgn_any mb _ s i m.w w0 E0.2 (hroom.mono (by omega)) h8.2.2).mono ?_
 rintro e w1 ⟨rfl,k1⟩
 have HE : Hid _ := MkEnd.trans E0 k1
 clear k1 E0
 go_wp2_with fail
 go_ret
 exact ⟨rfl,HE.out⟩
set_option maxHeartbeats 800000 in
theorem mfac_line (mb : Nat) (L : List Stp) (s i : Nat) (m : Tr) (w : World) (hM : Mkr w mb L s i) (hroom : Room L s 4) (_h8 : S8 m) :
  Calls Tryz.prog 92 #[mP mb,S [108,105,110,101],trV m] w fun e w' => e = .returned (rV s) ∧ MkEnd w w' mb (L ++ [⟨1,s,1,0⟩]) (s + 1) i := by
 have E0 : MkEnd w (w.alloc (trO m)) mb L s i := MkEnd.al (show MkEnd w w mb L s i from ⟨Kp.refl mb w,hM⟩) _
 have f_m : AtT (w.alloc (trO m)) w.heap.size m := heap_alloc_new w _
 obtain ⟨c0,c1,c2⟩ := cells3 f_m
 have HH : Hid _ := E0
 clear E0 f_m hM
 go_enter Tryz.func92,Tryz.ntmps92
 go_wp2_with (go_at_call 122; go_in)
 generalize w.alloc (.cells #[rV m.x,rV m.y,rV m.w] 84) = w0 at *
 clear c0 c1 c2
 have E0 := HH.out
 clear HH
 refine (mcon_any mb _ s i 1 w0 E0.2 (hroom.mono (by omega)) (by omega)).mono ?_
 rintro e w1 ⟨rfl,k1⟩
 have HE : Hid _ := MkEnd.trans E0 k1
 clear k1 E0
 go_wp2_with fail
 go_ret
 exact ⟨rfl,HE.out⟩
set_option maxHeartbeats 800000 in
theorem mfac_par (mb : Nat) (L : List Stp) (s i : Nat) (m : Tr) (w : World) (hM : Mkr w mb L s i) (hroom : Room L s 4) (_h8 : S8 m) :
  Calls Tryz.prog 92 #[mP mb,S [112,97,114],trV m] w fun e w' => e = .returned (rV s) ∧ MkEnd w w' mb (L ++ [⟨1,s,1,0⟩]) (s + 1) i := by
 have E0 : MkEnd w (w.alloc (trO m)) mb L s i := MkEnd.al (show MkEnd w w mb L s i from ⟨Kp.refl mb w,hM⟩) _
 have f_m : AtT (w.alloc (trO m)) w.heap.size m := heap_alloc_new w _
 obtain ⟨c0,c1,c2⟩ := cells3 f_m
 have HH : Hid _ := E0
 clear E0 f_m hM
 go_enter Tryz.func92,Tryz.ntmps92
 go_wp2_with (go_at_call 122; go_in)
 generalize w.alloc (.cells #[rV m.x,rV m.y,rV m.w] 84) = w0 at *
 clear c0 c1 c2
 have E0 := HH.out
 clear HH
 refine (mcon_any mb _ s i 1 w0 E0.2 (hroom.mono (by omega)) (by omega)).mono ?_
 rintro e w1 ⟨rfl,k1⟩
 have HE : Hid _ := MkEnd.trans E0 k1
 clear k1 E0
 go_wp2_with fail
 go_ret
 exact ⟨rfl,HE.out⟩
set_option maxHeartbeats 800000 in
theorem mfac_perp (mb : Nat) (L : List Stp) (s i : Nat) (m : Tr) (w : World) (hM : Mkr w mb L s i) (hroom : Room L s 4) (_h8 : S8 m) :
  Calls Tryz.prog 92 #[mP mb,S [112,101,114,112],trV m] w fun e w' => e = .returned (rV s) ∧ MkEnd w w' mb (L ++ [⟨1,s,1,0⟩]) (s + 1) i := by
 have E0 : MkEnd w (w.alloc (trO m)) mb L s i := MkEnd.al (show MkEnd w w mb L s i from ⟨Kp.refl mb w,hM⟩) _
 have f_m : AtT (w.alloc (trO m)) w.heap.size m := heap_alloc_new w _
 obtain ⟨c0,c1,c2⟩ := cells3 f_m
 have HH : Hid _ := E0
 clear E0 f_m hM
 go_enter Tryz.func92,Tryz.ntmps92
 go_wp2_with (go_at_call 122; go_in)
 generalize w.alloc (.cells #[rV m.x,rV m.y,rV m.w] 84) = w0 at *
 clear c0 c1 c2
 have E0 := HH.out
 clear HH
 refine (mcon_any mb _ s i 1 w0 E0.2 (hroom.mono (by omega)) (by omega)).mono ?_
 rintro e w1 ⟨rfl,k1⟩
 have HE : Hid _ := MkEnd.trans E0 k1
 clear k1 E0
 go_wp2_with fail
 go_ret
 exact ⟨rfl,HE.out⟩
end Go.Proofs.YtmnfndpbblpjiabGreatDoor
