/- The maker's keep, word by word. -/
import Derived.Test.YtmnfndpbblpjiabGreatDoorZb17
import Derived.Test.YtmnfndpbblpjiabGreatDoorZb01
namespace Go.Proofs.YtmnfndpbblpjiabGreatDoor
open Go.RowKit Pu

set_option maxHeartbeats 1600000 in
theorem mkeep_pt (mb : Nat) (L : List Stp) (s i : Nat) (m : Tr) (k : Nat) (w : World) (hM : Mkr w mb L s i) (hroom : Room L s 4) (h8 : S8 m) (hk : k < 16) :
    Calls Tryz.prog 52 #[mP mb, S [112, 116], trV m, .int .i64 k] w fun e w' => e = .returned (.tuple #[]) ∧ MkEnd w w' mb (L ++ kpP s m k) (s + 1) i := by
  have r1 := hroom.1
  have r2 := hroom.2
  have E0 : MkEnd w (w.alloc (trO m)) mb L s i := MkEnd.al (show MkEnd w w mb L s i from ⟨Kp.refl mb w, hM⟩) _
  have f_m : AtT (w.alloc (trO m)) w.heap.size m := heap_alloc_new w _
  have HH : Hid _ := And.intro E0 f_m
  clear E0 f_m hM
  go_enter Tryz.func52, Tryz.ntmps52
  go_wp2_with fail
  generalize w.alloc (.cells #[rV m.x, rV m.y, rV m.w] 84) = w0 at *
  obtain ⟨E0, f_m⟩ := HH.out
  clear HH
  refine (home_any k hk w0).mono ?_
  rintro e w1 ⟨rfl, k1⟩
  have E1 := MkEnd.al (E0.md k1) (.cells #[rV (hm k).x, rV (hm k).y, rV (hm k).w] 84)
  have f_h : AtT (w1.alloc (.cells #[rV (hm k).x, rV (hm k).y, rV (hm k).w] 84)) w1.heap.size (hm k) := heap_alloc_new w1 _
  replace f_m := At3.al (At3.md f_m k1) (.cells #[rV (hm k).x, rV (hm k).y, rV (hm k).w] 84)
  obtain ⟨q0, q1, q2⟩ := cells3 f_m
  have HH : Hid _ := And.intro E1 (And.intro f_m f_h)
  clear k1 E0 E1 f_m f_h
  go_wp2_with fail
  generalize w1.alloc (.cells #[rV (hm k).x, rV (hm k).y, rV (hm k).w] 84) = w1b at *
  clear q0 q1 q2
  obtain ⟨E1, f_m, f_h⟩ := HH.out
  clear HH
  refine (mfac_pt mb _ s i m w1b E1.2 hroom h8).mono ?_
  rintro e w2 ⟨rfl, k2⟩
  have E2 : MkEnd w w2 mb (L ++ [⟨5, s, m.w, 0⟩]) (s + 1) i := MkEnd.trans E1 k2
  replace f_m := At3.kp f_m k2.1
  replace f_h := At3.kp f_h k2.1
  clear k2 E1
  obtain ⟨q0, q1, q2⟩ := cells3 f_m
  obtain ⟨p0, p1, p2⟩ := cells3 f_h
  have HH : Hid _ := And.intro E2 (And.intro f_m f_h)
  clear E2 f_m f_h
  go_wp2_with fail
  clear q0 q1 q2 p0 p1 p2
  obtain ⟨E2, f_m, f_h⟩ := HH.out
  clear HH
  refine (madd_any mb _ (s + 1) i ⟨4, (hm k).x, m.x, s⟩ w2 E2.2 (by simp; omega) ⟨by show 4 < 256; omega, by show 3 * k < 256; omega, h8.1, by show s < 256; omega⟩).mono ?_
  rintro e w3 ⟨rfl, k3, m3⟩
  have E3 : MkEnd w w3 mb (L ++ [⟨5, s, m.w, 0⟩] ++ [⟨4, (hm k).x, m.x, s⟩]) (s + 1) i := MkEnd.trans E2 (show MkEnd w2 w3 mb _ (s + 1) i from ⟨k3, m3⟩)
  replace f_m := At3.kp f_m k3
  replace f_h := At3.kp f_h k3
  clear k3 m3 E2
  obtain ⟨q0, q1, q2⟩ := cells3 f_m
  obtain ⟨p0, p1, p2⟩ := cells3 f_h
  have HH : Hid _ := And.intro E3 (And.intro f_m f_h)
  clear E3 f_m f_h
  go_wp2_with fail
  clear q0 q1 q2 p0 p1 p2
  obtain ⟨E3, f_m, f_h⟩ := HH.out
  clear HH
  refine (madd_any mb _ (s + 1) i ⟨4, (hm k).y, m.y, s⟩ w3 E3.2 (by simp; omega) ⟨by show 4 < 256; omega, by show 3 * k + 1 < 256; omega, h8.2.1, by show s < 256; omega⟩).mono ?_
  rintro e w4 ⟨rfl, k4, m4⟩
  have E4 : MkEnd w w4 mb (L ++ [⟨5, s, m.w, 0⟩] ++ [⟨4, (hm k).x, m.x, s⟩] ++ [⟨4, (hm k).y, m.y, s⟩]) (s + 1) i := MkEnd.trans E3 (show MkEnd w3 w4 mb _ (s + 1) i from ⟨k4, m4⟩)
  replace f_m := At3.kp f_m k4
  replace f_h := At3.kp f_h k4
  clear k4 m4 E3
  obtain ⟨q0, q1, q2⟩ := cells3 f_m
  obtain ⟨p0, p1, p2⟩ := cells3 f_h
  have HH : Hid _ := And.intro E4 (And.intro f_m f_h)
  clear E4 f_m f_h
  go_wp2_with fail
  clear q0 q1 q2 p0 p1 p2
  obtain ⟨E4, f_m, f_h⟩ := HH.out
  clear HH
  refine (madd_any mb _ (s + 1) i ⟨4, (hm k).w, m.w, s⟩ w4 E4.2 (by simp; omega) ⟨by show 4 < 256; omega, by show 3 * k + 2 < 256; omega, h8.2.2, by show s < 256; omega⟩).mono ?_
  rintro e w5 ⟨rfl, k5, m5⟩
  have E5 : MkEnd w w5 mb (L ++ [⟨5, s, m.w, 0⟩] ++ [⟨4, (hm k).x, m.x, s⟩] ++ [⟨4, (hm k).y, m.y, s⟩] ++ [⟨4, (hm k).w, m.w, s⟩]) (s + 1) i := MkEnd.trans E4 (show MkEnd w4 w5 mb _ (s + 1) i from ⟨k5, m5⟩)
  replace f_m := At3.kp f_m k5
  replace f_h := At3.kp f_h k5
  clear k5 m5 E4
  have HE : Hid _ := E5
  clear E5 f_m f_h
  go_wp2_with fail
  have hL : L ++ [⟨5, s, m.w, 0⟩] ++ [⟨4, (hm k).x, m.x, s⟩] ++ [⟨4, (hm k).y, m.y, s⟩] ++ [⟨4, (hm k).w, m.w, s⟩] = L ++ kpP s m k := by
    simp only [List.append_assoc]
    rfl
  exact bodyPost_end (v := .tuple #[]) (by simp [results, Tryz.results52]) rfl ⟨rfl, by rw [← hL]; exact HE.out⟩

set_option maxHeartbeats 1600000 in
theorem mkeep_mid (mb : Nat) (L : List Stp) (s i : Nat) (m : Tr) (k : Nat) (w : World) (hM : Mkr w mb L s i) (hroom : Room L s 4) (h8 : S8 m) (hk : k < 16) :
    Calls Tryz.prog 52 #[mP mb, S [109, 105, 100], trV m, .int .i64 k] w fun e w' => e = .returned (.tuple #[]) ∧ MkEnd w w' mb (L ++ kpP s m k) (s + 1) i := by
  have r1 := hroom.1
  have r2 := hroom.2
  have E0 : MkEnd w (w.alloc (trO m)) mb L s i := MkEnd.al (show MkEnd w w mb L s i from ⟨Kp.refl mb w, hM⟩) _
  have f_m : AtT (w.alloc (trO m)) w.heap.size m := heap_alloc_new w _
  have HH : Hid _ := And.intro E0 f_m
  clear E0 f_m hM
  go_enter Tryz.func52, Tryz.ntmps52
  go_wp2_with fail
  generalize w.alloc (.cells #[rV m.x, rV m.y, rV m.w] 84) = w0 at *
  obtain ⟨E0, f_m⟩ := HH.out
  clear HH
  refine (home_any k hk w0).mono ?_
  rintro e w1 ⟨rfl, k1⟩
  have E1 := MkEnd.al (E0.md k1) (.cells #[rV (hm k).x, rV (hm k).y, rV (hm k).w] 84)
  have f_h : AtT (w1.alloc (.cells #[rV (hm k).x, rV (hm k).y, rV (hm k).w] 84)) w1.heap.size (hm k) := heap_alloc_new w1 _
  replace f_m := At3.al (At3.md f_m k1) (.cells #[rV (hm k).x, rV (hm k).y, rV (hm k).w] 84)
  obtain ⟨q0, q1, q2⟩ := cells3 f_m
  have HH : Hid _ := And.intro E1 (And.intro f_m f_h)
  clear k1 E0 E1 f_m f_h
  go_wp2_with fail
  generalize w1.alloc (.cells #[rV (hm k).x, rV (hm k).y, rV (hm k).w] 84) = w1b at *
  clear q0 q1 q2
  obtain ⟨E1, f_m, f_h⟩ := HH.out
  clear HH
  refine (mfac_mid mb _ s i m w1b E1.2 hroom h8).mono ?_
  rintro e w2 ⟨rfl, k2⟩
  have E2 : MkEnd w w2 mb (L ++ [⟨5, s, m.w, 0⟩]) (s + 1) i := MkEnd.trans E1 k2
  replace f_m := At3.kp f_m k2.1
  replace f_h := At3.kp f_h k2.1
  clear k2 E1
  obtain ⟨q0, q1, q2⟩ := cells3 f_m
  obtain ⟨p0, p1, p2⟩ := cells3 f_h
  have HH : Hid _ := And.intro E2 (And.intro f_m f_h)
  clear E2 f_m f_h
  go_wp2_with fail
  clear q0 q1 q2 p0 p1 p2
  obtain ⟨E2, f_m, f_h⟩ := HH.out
  clear HH
  refine (madd_any mb _ (s + 1) i ⟨4, (hm k).x, m.x, s⟩ w2 E2.2 (by simp; omega) ⟨by show 4 < 256; omega, by show 3 * k < 256; omega, h8.1, by show s < 256; omega⟩).mono ?_
  rintro e w3 ⟨rfl, k3, m3⟩
  have E3 : MkEnd w w3 mb (L ++ [⟨5, s, m.w, 0⟩] ++ [⟨4, (hm k).x, m.x, s⟩]) (s + 1) i := MkEnd.trans E2 (show MkEnd w2 w3 mb _ (s + 1) i from ⟨k3, m3⟩)
  replace f_m := At3.kp f_m k3
  replace f_h := At3.kp f_h k3
  clear k3 m3 E2
  obtain ⟨q0, q1, q2⟩ := cells3 f_m
  obtain ⟨p0, p1, p2⟩ := cells3 f_h
  have HH : Hid _ := And.intro E3 (And.intro f_m f_h)
  clear E3 f_m f_h
  go_wp2_with fail
  clear q0 q1 q2 p0 p1 p2
  obtain ⟨E3, f_m, f_h⟩ := HH.out
  clear HH
  refine (madd_any mb _ (s + 1) i ⟨4, (hm k).y, m.y, s⟩ w3 E3.2 (by simp; omega) ⟨by show 4 < 256; omega, by show 3 * k + 1 < 256; omega, h8.2.1, by show s < 256; omega⟩).mono ?_
  rintro e w4 ⟨rfl, k4, m4⟩
  have E4 : MkEnd w w4 mb (L ++ [⟨5, s, m.w, 0⟩] ++ [⟨4, (hm k).x, m.x, s⟩] ++ [⟨4, (hm k).y, m.y, s⟩]) (s + 1) i := MkEnd.trans E3 (show MkEnd w3 w4 mb _ (s + 1) i from ⟨k4, m4⟩)
  replace f_m := At3.kp f_m k4
  replace f_h := At3.kp f_h k4
  clear k4 m4 E3
  obtain ⟨q0, q1, q2⟩ := cells3 f_m
  obtain ⟨p0, p1, p2⟩ := cells3 f_h
  have HH : Hid _ := And.intro E4 (And.intro f_m f_h)
  clear E4 f_m f_h
  go_wp2_with fail
  clear q0 q1 q2 p0 p1 p2
  obtain ⟨E4, f_m, f_h⟩ := HH.out
  clear HH
  refine (madd_any mb _ (s + 1) i ⟨4, (hm k).w, m.w, s⟩ w4 E4.2 (by simp; omega) ⟨by show 4 < 256; omega, by show 3 * k + 2 < 256; omega, h8.2.2, by show s < 256; omega⟩).mono ?_
  rintro e w5 ⟨rfl, k5, m5⟩
  have E5 : MkEnd w w5 mb (L ++ [⟨5, s, m.w, 0⟩] ++ [⟨4, (hm k).x, m.x, s⟩] ++ [⟨4, (hm k).y, m.y, s⟩] ++ [⟨4, (hm k).w, m.w, s⟩]) (s + 1) i := MkEnd.trans E4 (show MkEnd w4 w5 mb _ (s + 1) i from ⟨k5, m5⟩)
  replace f_m := At3.kp f_m k5
  replace f_h := At3.kp f_h k5
  clear k5 m5 E4
  have HE : Hid _ := E5
  clear E5 f_m f_h
  go_wp2_with fail
  have hL : L ++ [⟨5, s, m.w, 0⟩] ++ [⟨4, (hm k).x, m.x, s⟩] ++ [⟨4, (hm k).y, m.y, s⟩] ++ [⟨4, (hm k).w, m.w, s⟩] = L ++ kpP s m k := by
    simp only [List.append_assoc]
    rfl
  exact bodyPost_end (v := .tuple #[]) (by simp [results, Tryz.results52]) rfl ⟨rfl, by rw [← hL]; exact HE.out⟩

set_option maxHeartbeats 1600000 in
theorem mkeep_meet (mb : Nat) (L : List Stp) (s i : Nat) (m : Tr) (k : Nat) (w : World) (hM : Mkr w mb L s i) (hroom : Room L s 4) (h8 : S8 m) (hk : k < 16) :
    Calls Tryz.prog 52 #[mP mb, S [109, 101, 101, 116], trV m, .int .i64 k] w fun e w' => e = .returned (.tuple #[]) ∧ MkEnd w w' mb (L ++ kpP s m k) (s + 1) i := by
  have r1 := hroom.1
  have r2 := hroom.2
  have E0 : MkEnd w (w.alloc (trO m)) mb L s i := MkEnd.al (show MkEnd w w mb L s i from ⟨Kp.refl mb w, hM⟩) _
  have f_m : AtT (w.alloc (trO m)) w.heap.size m := heap_alloc_new w _
  have HH : Hid _ := And.intro E0 f_m
  clear E0 f_m hM
  go_enter Tryz.func52, Tryz.ntmps52
  go_wp2_with fail
  generalize w.alloc (.cells #[rV m.x, rV m.y, rV m.w] 84) = w0 at *
  obtain ⟨E0, f_m⟩ := HH.out
  clear HH
  refine (home_any k hk w0).mono ?_
  rintro e w1 ⟨rfl, k1⟩
  have E1 := MkEnd.al (E0.md k1) (.cells #[rV (hm k).x, rV (hm k).y, rV (hm k).w] 84)
  have f_h : AtT (w1.alloc (.cells #[rV (hm k).x, rV (hm k).y, rV (hm k).w] 84)) w1.heap.size (hm k) := heap_alloc_new w1 _
  replace f_m := At3.al (At3.md f_m k1) (.cells #[rV (hm k).x, rV (hm k).y, rV (hm k).w] 84)
  obtain ⟨q0, q1, q2⟩ := cells3 f_m
  have HH : Hid _ := And.intro E1 (And.intro f_m f_h)
  clear k1 E0 E1 f_m f_h
  go_wp2_with fail
  generalize w1.alloc (.cells #[rV (hm k).x, rV (hm k).y, rV (hm k).w] 84) = w1b at *
  clear q0 q1 q2
  obtain ⟨E1, f_m, f_h⟩ := HH.out
  clear HH
  refine (mfac_meet mb _ s i m w1b E1.2 hroom h8).mono ?_
  rintro e w2 ⟨rfl, k2⟩
  have E2 : MkEnd w w2 mb (L ++ [⟨5, s, m.w, 0⟩]) (s + 1) i := MkEnd.trans E1 k2
  replace f_m := At3.kp f_m k2.1
  replace f_h := At3.kp f_h k2.1
  clear k2 E1
  obtain ⟨q0, q1, q2⟩ := cells3 f_m
  obtain ⟨p0, p1, p2⟩ := cells3 f_h
  have HH : Hid _ := And.intro E2 (And.intro f_m f_h)
  clear E2 f_m f_h
  go_wp2_with fail
  clear q0 q1 q2 p0 p1 p2
  obtain ⟨E2, f_m, f_h⟩ := HH.out
  clear HH
  refine (madd_any mb _ (s + 1) i ⟨4, (hm k).x, m.x, s⟩ w2 E2.2 (by simp; omega) ⟨by show 4 < 256; omega, by show 3 * k < 256; omega, h8.1, by show s < 256; omega⟩).mono ?_
  rintro e w3 ⟨rfl, k3, m3⟩
  have E3 : MkEnd w w3 mb (L ++ [⟨5, s, m.w, 0⟩] ++ [⟨4, (hm k).x, m.x, s⟩]) (s + 1) i := MkEnd.trans E2 (show MkEnd w2 w3 mb _ (s + 1) i from ⟨k3, m3⟩)
  replace f_m := At3.kp f_m k3
  replace f_h := At3.kp f_h k3
  clear k3 m3 E2
  obtain ⟨q0, q1, q2⟩ := cells3 f_m
  obtain ⟨p0, p1, p2⟩ := cells3 f_h
  have HH : Hid _ := And.intro E3 (And.intro f_m f_h)
  clear E3 f_m f_h
  go_wp2_with fail
  clear q0 q1 q2 p0 p1 p2
  obtain ⟨E3, f_m, f_h⟩ := HH.out
  clear HH
  refine (madd_any mb _ (s + 1) i ⟨4, (hm k).y, m.y, s⟩ w3 E3.2 (by simp; omega) ⟨by show 4 < 256; omega, by show 3 * k + 1 < 256; omega, h8.2.1, by show s < 256; omega⟩).mono ?_
  rintro e w4 ⟨rfl, k4, m4⟩
  have E4 : MkEnd w w4 mb (L ++ [⟨5, s, m.w, 0⟩] ++ [⟨4, (hm k).x, m.x, s⟩] ++ [⟨4, (hm k).y, m.y, s⟩]) (s + 1) i := MkEnd.trans E3 (show MkEnd w3 w4 mb _ (s + 1) i from ⟨k4, m4⟩)
  replace f_m := At3.kp f_m k4
  replace f_h := At3.kp f_h k4
  clear k4 m4 E3
  obtain ⟨q0, q1, q2⟩ := cells3 f_m
  obtain ⟨p0, p1, p2⟩ := cells3 f_h
  have HH : Hid _ := And.intro E4 (And.intro f_m f_h)
  clear E4 f_m f_h
  go_wp2_with fail
  clear q0 q1 q2 p0 p1 p2
  obtain ⟨E4, f_m, f_h⟩ := HH.out
  clear HH
  refine (madd_any mb _ (s + 1) i ⟨4, (hm k).w, m.w, s⟩ w4 E4.2 (by simp; omega) ⟨by show 4 < 256; omega, by show 3 * k + 2 < 256; omega, h8.2.2, by show s < 256; omega⟩).mono ?_
  rintro e w5 ⟨rfl, k5, m5⟩
  have E5 : MkEnd w w5 mb (L ++ [⟨5, s, m.w, 0⟩] ++ [⟨4, (hm k).x, m.x, s⟩] ++ [⟨4, (hm k).y, m.y, s⟩] ++ [⟨4, (hm k).w, m.w, s⟩]) (s + 1) i := MkEnd.trans E4 (show MkEnd w4 w5 mb _ (s + 1) i from ⟨k5, m5⟩)
  replace f_m := At3.kp f_m k5
  replace f_h := At3.kp f_h k5
  clear k5 m5 E4
  have HE : Hid _ := E5
  clear E5 f_m f_h
  go_wp2_with fail
  have hL : L ++ [⟨5, s, m.w, 0⟩] ++ [⟨4, (hm k).x, m.x, s⟩] ++ [⟨4, (hm k).y, m.y, s⟩] ++ [⟨4, (hm k).w, m.w, s⟩] = L ++ kpP s m k := by
    simp only [List.append_assoc]
    rfl
  exact bodyPost_end (v := .tuple #[]) (by simp [results, Tryz.results52]) rfl ⟨rfl, by rw [← hL]; exact HE.out⟩

set_option maxHeartbeats 1600000 in
theorem mkeep_foot (mb : Nat) (L : List Stp) (s i : Nat) (m : Tr) (k : Nat) (w : World) (hM : Mkr w mb L s i) (hroom : Room L s 4) (h8 : S8 m) (hk : k < 16) :
    Calls Tryz.prog 52 #[mP mb, S [102, 111, 111, 116], trV m, .int .i64 k] w fun e w' => e = .returned (.tuple #[]) ∧ MkEnd w w' mb (L ++ kpP s m k) (s + 1) i := by
  have r1 := hroom.1
  have r2 := hroom.2
  have E0 : MkEnd w (w.alloc (trO m)) mb L s i := MkEnd.al (show MkEnd w w mb L s i from ⟨Kp.refl mb w, hM⟩) _
  have f_m : AtT (w.alloc (trO m)) w.heap.size m := heap_alloc_new w _
  have HH : Hid _ := And.intro E0 f_m
  clear E0 f_m hM
  go_enter Tryz.func52, Tryz.ntmps52
  go_wp2_with fail
  generalize w.alloc (.cells #[rV m.x, rV m.y, rV m.w] 84) = w0 at *
  obtain ⟨E0, f_m⟩ := HH.out
  clear HH
  refine (home_any k hk w0).mono ?_
  rintro e w1 ⟨rfl, k1⟩
  have E1 := MkEnd.al (E0.md k1) (.cells #[rV (hm k).x, rV (hm k).y, rV (hm k).w] 84)
  have f_h : AtT (w1.alloc (.cells #[rV (hm k).x, rV (hm k).y, rV (hm k).w] 84)) w1.heap.size (hm k) := heap_alloc_new w1 _
  replace f_m := At3.al (At3.md f_m k1) (.cells #[rV (hm k).x, rV (hm k).y, rV (hm k).w] 84)
  obtain ⟨q0, q1, q2⟩ := cells3 f_m
  have HH : Hid _ := And.intro E1 (And.intro f_m f_h)
  clear k1 E0 E1 f_m f_h
  go_wp2_with fail
  generalize w1.alloc (.cells #[rV (hm k).x, rV (hm k).y, rV (hm k).w] 84) = w1b at *
  clear q0 q1 q2
  obtain ⟨E1, f_m, f_h⟩ := HH.out
  clear HH
  refine (mfac_foot mb _ s i m w1b E1.2 hroom h8).mono ?_
  rintro e w2 ⟨rfl, k2⟩
  have E2 : MkEnd w w2 mb (L ++ [⟨5, s, m.w, 0⟩]) (s + 1) i := MkEnd.trans E1 k2
  replace f_m := At3.kp f_m k2.1
  replace f_h := At3.kp f_h k2.1
  clear k2 E1
  obtain ⟨q0, q1, q2⟩ := cells3 f_m
  obtain ⟨p0, p1, p2⟩ := cells3 f_h
  have HH : Hid _ := And.intro E2 (And.intro f_m f_h)
  clear E2 f_m f_h
  go_wp2_with fail
  clear q0 q1 q2 p0 p1 p2
  obtain ⟨E2, f_m, f_h⟩ := HH.out
  clear HH
  refine (madd_any mb _ (s + 1) i ⟨4, (hm k).x, m.x, s⟩ w2 E2.2 (by simp; omega) ⟨by show 4 < 256; omega, by show 3 * k < 256; omega, h8.1, by show s < 256; omega⟩).mono ?_
  rintro e w3 ⟨rfl, k3, m3⟩
  have E3 : MkEnd w w3 mb (L ++ [⟨5, s, m.w, 0⟩] ++ [⟨4, (hm k).x, m.x, s⟩]) (s + 1) i := MkEnd.trans E2 (show MkEnd w2 w3 mb _ (s + 1) i from ⟨k3, m3⟩)
  replace f_m := At3.kp f_m k3
  replace f_h := At3.kp f_h k3
  clear k3 m3 E2
  obtain ⟨q0, q1, q2⟩ := cells3 f_m
  obtain ⟨p0, p1, p2⟩ := cells3 f_h
  have HH : Hid _ := And.intro E3 (And.intro f_m f_h)
  clear E3 f_m f_h
  go_wp2_with fail
  clear q0 q1 q2 p0 p1 p2
  obtain ⟨E3, f_m, f_h⟩ := HH.out
  clear HH
  refine (madd_any mb _ (s + 1) i ⟨4, (hm k).y, m.y, s⟩ w3 E3.2 (by simp; omega) ⟨by show 4 < 256; omega, by show 3 * k + 1 < 256; omega, h8.2.1, by show s < 256; omega⟩).mono ?_
  rintro e w4 ⟨rfl, k4, m4⟩
  have E4 : MkEnd w w4 mb (L ++ [⟨5, s, m.w, 0⟩] ++ [⟨4, (hm k).x, m.x, s⟩] ++ [⟨4, (hm k).y, m.y, s⟩]) (s + 1) i := MkEnd.trans E3 (show MkEnd w3 w4 mb _ (s + 1) i from ⟨k4, m4⟩)
  replace f_m := At3.kp f_m k4
  replace f_h := At3.kp f_h k4
  clear k4 m4 E3
  obtain ⟨q0, q1, q2⟩ := cells3 f_m
  obtain ⟨p0, p1, p2⟩ := cells3 f_h
  have HH : Hid _ := And.intro E4 (And.intro f_m f_h)
  clear E4 f_m f_h
  go_wp2_with fail
  clear q0 q1 q2 p0 p1 p2
  obtain ⟨E4, f_m, f_h⟩ := HH.out
  clear HH
  refine (madd_any mb _ (s + 1) i ⟨4, (hm k).w, m.w, s⟩ w4 E4.2 (by simp; omega) ⟨by show 4 < 256; omega, by show 3 * k + 2 < 256; omega, h8.2.2, by show s < 256; omega⟩).mono ?_
  rintro e w5 ⟨rfl, k5, m5⟩
  have E5 : MkEnd w w5 mb (L ++ [⟨5, s, m.w, 0⟩] ++ [⟨4, (hm k).x, m.x, s⟩] ++ [⟨4, (hm k).y, m.y, s⟩] ++ [⟨4, (hm k).w, m.w, s⟩]) (s + 1) i := MkEnd.trans E4 (show MkEnd w4 w5 mb _ (s + 1) i from ⟨k5, m5⟩)
  replace f_m := At3.kp f_m k5
  replace f_h := At3.kp f_h k5
  clear k5 m5 E4
  have HE : Hid _ := E5
  clear E5 f_m f_h
  go_wp2_with fail
  have hL : L ++ [⟨5, s, m.w, 0⟩] ++ [⟨4, (hm k).x, m.x, s⟩] ++ [⟨4, (hm k).y, m.y, s⟩] ++ [⟨4, (hm k).w, m.w, s⟩] = L ++ kpP s m k := by
    simp only [List.append_assoc]
    rfl
  exact bodyPost_end (v := .tuple #[]) (by simp [results, Tryz.results52]) rfl ⟨rfl, by rw [← hL]; exact HE.out⟩

set_option maxHeartbeats 1600000 in
theorem mkeep_mirror (mb : Nat) (L : List Stp) (s i : Nat) (m : Tr) (k : Nat) (w : World) (hM : Mkr w mb L s i) (hroom : Room L s 4) (h8 : S8 m) (hk : k < 16) :
    Calls Tryz.prog 52 #[mP mb, S [109, 105, 114, 114, 111, 114], trV m, .int .i64 k] w fun e w' => e = .returned (.tuple #[]) ∧ MkEnd w w' mb (L ++ kpP s m k) (s + 1) i := by
  have r1 := hroom.1
  have r2 := hroom.2
  have E0 : MkEnd w (w.alloc (trO m)) mb L s i := MkEnd.al (show MkEnd w w mb L s i from ⟨Kp.refl mb w, hM⟩) _
  have f_m : AtT (w.alloc (trO m)) w.heap.size m := heap_alloc_new w _
  have HH : Hid _ := And.intro E0 f_m
  clear E0 f_m hM
  go_enter Tryz.func52, Tryz.ntmps52
  go_wp2_with fail
  generalize w.alloc (.cells #[rV m.x, rV m.y, rV m.w] 84) = w0 at *
  obtain ⟨E0, f_m⟩ := HH.out
  clear HH
  refine (home_any k hk w0).mono ?_
  rintro e w1 ⟨rfl, k1⟩
  have E1 := MkEnd.al (E0.md k1) (.cells #[rV (hm k).x, rV (hm k).y, rV (hm k).w] 84)
  have f_h : AtT (w1.alloc (.cells #[rV (hm k).x, rV (hm k).y, rV (hm k).w] 84)) w1.heap.size (hm k) := heap_alloc_new w1 _
  replace f_m := At3.al (At3.md f_m k1) (.cells #[rV (hm k).x, rV (hm k).y, rV (hm k).w] 84)
  obtain ⟨q0, q1, q2⟩ := cells3 f_m
  have HH : Hid _ := And.intro E1 (And.intro f_m f_h)
  clear k1 E0 E1 f_m f_h
  go_wp2_with fail
  generalize w1.alloc (.cells #[rV (hm k).x, rV (hm k).y, rV (hm k).w] 84) = w1b at *
  clear q0 q1 q2
  obtain ⟨E1, f_m, f_h⟩ := HH.out
  clear HH
  refine (mfac_mirror mb _ s i m w1b E1.2 hroom h8).mono ?_
  rintro e w2 ⟨rfl, k2⟩
  have E2 : MkEnd w w2 mb (L ++ [⟨5, s, m.w, 0⟩]) (s + 1) i := MkEnd.trans E1 k2
  replace f_m := At3.kp f_m k2.1
  replace f_h := At3.kp f_h k2.1
  clear k2 E1
  obtain ⟨q0, q1, q2⟩ := cells3 f_m
  obtain ⟨p0, p1, p2⟩ := cells3 f_h
  have HH : Hid _ := And.intro E2 (And.intro f_m f_h)
  clear E2 f_m f_h
  go_wp2_with fail
  clear q0 q1 q2 p0 p1 p2
  obtain ⟨E2, f_m, f_h⟩ := HH.out
  clear HH
  refine (madd_any mb _ (s + 1) i ⟨4, (hm k).x, m.x, s⟩ w2 E2.2 (by simp; omega) ⟨by show 4 < 256; omega, by show 3 * k < 256; omega, h8.1, by show s < 256; omega⟩).mono ?_
  rintro e w3 ⟨rfl, k3, m3⟩
  have E3 : MkEnd w w3 mb (L ++ [⟨5, s, m.w, 0⟩] ++ [⟨4, (hm k).x, m.x, s⟩]) (s + 1) i := MkEnd.trans E2 (show MkEnd w2 w3 mb _ (s + 1) i from ⟨k3, m3⟩)
  replace f_m := At3.kp f_m k3
  replace f_h := At3.kp f_h k3
  clear k3 m3 E2
  obtain ⟨q0, q1, q2⟩ := cells3 f_m
  obtain ⟨p0, p1, p2⟩ := cells3 f_h
  have HH : Hid _ := And.intro E3 (And.intro f_m f_h)
  clear E3 f_m f_h
  go_wp2_with fail
  clear q0 q1 q2 p0 p1 p2
  obtain ⟨E3, f_m, f_h⟩ := HH.out
  clear HH
  refine (madd_any mb _ (s + 1) i ⟨4, (hm k).y, m.y, s⟩ w3 E3.2 (by simp; omega) ⟨by show 4 < 256; omega, by show 3 * k + 1 < 256; omega, h8.2.1, by show s < 256; omega⟩).mono ?_
  rintro e w4 ⟨rfl, k4, m4⟩
  have E4 : MkEnd w w4 mb (L ++ [⟨5, s, m.w, 0⟩] ++ [⟨4, (hm k).x, m.x, s⟩] ++ [⟨4, (hm k).y, m.y, s⟩]) (s + 1) i := MkEnd.trans E3 (show MkEnd w3 w4 mb _ (s + 1) i from ⟨k4, m4⟩)
  replace f_m := At3.kp f_m k4
  replace f_h := At3.kp f_h k4
  clear k4 m4 E3
  obtain ⟨q0, q1, q2⟩ := cells3 f_m
  obtain ⟨p0, p1, p2⟩ := cells3 f_h
  have HH : Hid _ := And.intro E4 (And.intro f_m f_h)
  clear E4 f_m f_h
  go_wp2_with fail
  clear q0 q1 q2 p0 p1 p2
  obtain ⟨E4, f_m, f_h⟩ := HH.out
  clear HH
  refine (madd_any mb _ (s + 1) i ⟨4, (hm k).w, m.w, s⟩ w4 E4.2 (by simp; omega) ⟨by show 4 < 256; omega, by show 3 * k + 2 < 256; omega, h8.2.2, by show s < 256; omega⟩).mono ?_
  rintro e w5 ⟨rfl, k5, m5⟩
  have E5 : MkEnd w w5 mb (L ++ [⟨5, s, m.w, 0⟩] ++ [⟨4, (hm k).x, m.x, s⟩] ++ [⟨4, (hm k).y, m.y, s⟩] ++ [⟨4, (hm k).w, m.w, s⟩]) (s + 1) i := MkEnd.trans E4 (show MkEnd w4 w5 mb _ (s + 1) i from ⟨k5, m5⟩)
  replace f_m := At3.kp f_m k5
  replace f_h := At3.kp f_h k5
  clear k5 m5 E4
  have HE : Hid _ := E5
  clear E5 f_m f_h
  go_wp2_with fail
  have hL : L ++ [⟨5, s, m.w, 0⟩] ++ [⟨4, (hm k).x, m.x, s⟩] ++ [⟨4, (hm k).y, m.y, s⟩] ++ [⟨4, (hm k).w, m.w, s⟩] = L ++ kpP s m k := by
    simp only [List.append_assoc]
    rfl
  exact bodyPost_end (v := .tuple #[]) (by simp [results, Tryz.results52]) rfl ⟨rfl, by rw [← hL]; exact HE.out⟩

set_option maxHeartbeats 1600000 in
theorem mkeep_centre (mb : Nat) (L : List Stp) (s i : Nat) (m : Tr) (k : Nat) (w : World) (hM : Mkr w mb L s i) (hroom : Room L s 4) (h8 : S8 m) (hk : k < 16) :
    Calls Tryz.prog 52 #[mP mb, S [99, 101, 110, 116, 114, 101], trV m, .int .i64 k] w fun e w' => e = .returned (.tuple #[]) ∧ MkEnd w w' mb (L ++ kpP s m k) (s + 1) i := by
  have r1 := hroom.1
  have r2 := hroom.2
  have E0 : MkEnd w (w.alloc (trO m)) mb L s i := MkEnd.al (show MkEnd w w mb L s i from ⟨Kp.refl mb w, hM⟩) _
  have f_m : AtT (w.alloc (trO m)) w.heap.size m := heap_alloc_new w _
  have HH : Hid _ := And.intro E0 f_m
  clear E0 f_m hM
  go_enter Tryz.func52, Tryz.ntmps52
  go_wp2_with fail
  generalize w.alloc (.cells #[rV m.x, rV m.y, rV m.w] 84) = w0 at *
  obtain ⟨E0, f_m⟩ := HH.out
  clear HH
  refine (home_any k hk w0).mono ?_
  rintro e w1 ⟨rfl, k1⟩
  have E1 := MkEnd.al (E0.md k1) (.cells #[rV (hm k).x, rV (hm k).y, rV (hm k).w] 84)
  have f_h : AtT (w1.alloc (.cells #[rV (hm k).x, rV (hm k).y, rV (hm k).w] 84)) w1.heap.size (hm k) := heap_alloc_new w1 _
  replace f_m := At3.al (At3.md f_m k1) (.cells #[rV (hm k).x, rV (hm k).y, rV (hm k).w] 84)
  obtain ⟨q0, q1, q2⟩ := cells3 f_m
  have HH : Hid _ := And.intro E1 (And.intro f_m f_h)
  clear k1 E0 E1 f_m f_h
  go_wp2_with fail
  generalize w1.alloc (.cells #[rV (hm k).x, rV (hm k).y, rV (hm k).w] 84) = w1b at *
  clear q0 q1 q2
  obtain ⟨E1, f_m, f_h⟩ := HH.out
  clear HH
  refine (mfac_centre mb _ s i m w1b E1.2 hroom h8).mono ?_
  rintro e w2 ⟨rfl, k2⟩
  have E2 : MkEnd w w2 mb (L ++ [⟨5, s, m.w, 0⟩]) (s + 1) i := MkEnd.trans E1 k2
  replace f_m := At3.kp f_m k2.1
  replace f_h := At3.kp f_h k2.1
  clear k2 E1
  obtain ⟨q0, q1, q2⟩ := cells3 f_m
  obtain ⟨p0, p1, p2⟩ := cells3 f_h
  have HH : Hid _ := And.intro E2 (And.intro f_m f_h)
  clear E2 f_m f_h
  go_wp2_with fail
  clear q0 q1 q2 p0 p1 p2
  obtain ⟨E2, f_m, f_h⟩ := HH.out
  clear HH
  refine (madd_any mb _ (s + 1) i ⟨4, (hm k).x, m.x, s⟩ w2 E2.2 (by simp; omega) ⟨by show 4 < 256; omega, by show 3 * k < 256; omega, h8.1, by show s < 256; omega⟩).mono ?_
  rintro e w3 ⟨rfl, k3, m3⟩
  have E3 : MkEnd w w3 mb (L ++ [⟨5, s, m.w, 0⟩] ++ [⟨4, (hm k).x, m.x, s⟩]) (s + 1) i := MkEnd.trans E2 (show MkEnd w2 w3 mb _ (s + 1) i from ⟨k3, m3⟩)
  replace f_m := At3.kp f_m k3
  replace f_h := At3.kp f_h k3
  clear k3 m3 E2
  obtain ⟨q0, q1, q2⟩ := cells3 f_m
  obtain ⟨p0, p1, p2⟩ := cells3 f_h
  have HH : Hid _ := And.intro E3 (And.intro f_m f_h)
  clear E3 f_m f_h
  go_wp2_with fail
  clear q0 q1 q2 p0 p1 p2
  obtain ⟨E3, f_m, f_h⟩ := HH.out
  clear HH
  refine (madd_any mb _ (s + 1) i ⟨4, (hm k).y, m.y, s⟩ w3 E3.2 (by simp; omega) ⟨by show 4 < 256; omega, by show 3 * k + 1 < 256; omega, h8.2.1, by show s < 256; omega⟩).mono ?_
  rintro e w4 ⟨rfl, k4, m4⟩
  have E4 : MkEnd w w4 mb (L ++ [⟨5, s, m.w, 0⟩] ++ [⟨4, (hm k).x, m.x, s⟩] ++ [⟨4, (hm k).y, m.y, s⟩]) (s + 1) i := MkEnd.trans E3 (show MkEnd w3 w4 mb _ (s + 1) i from ⟨k4, m4⟩)
  replace f_m := At3.kp f_m k4
  replace f_h := At3.kp f_h k4
  clear k4 m4 E3
  obtain ⟨q0, q1, q2⟩ := cells3 f_m
  obtain ⟨p0, p1, p2⟩ := cells3 f_h
  have HH : Hid _ := And.intro E4 (And.intro f_m f_h)
  clear E4 f_m f_h
  go_wp2_with fail
  clear q0 q1 q2 p0 p1 p2
  obtain ⟨E4, f_m, f_h⟩ := HH.out
  clear HH
  refine (madd_any mb _ (s + 1) i ⟨4, (hm k).w, m.w, s⟩ w4 E4.2 (by simp; omega) ⟨by show 4 < 256; omega, by show 3 * k + 2 < 256; omega, h8.2.2, by show s < 256; omega⟩).mono ?_
  rintro e w5 ⟨rfl, k5, m5⟩
  have E5 : MkEnd w w5 mb (L ++ [⟨5, s, m.w, 0⟩] ++ [⟨4, (hm k).x, m.x, s⟩] ++ [⟨4, (hm k).y, m.y, s⟩] ++ [⟨4, (hm k).w, m.w, s⟩]) (s + 1) i := MkEnd.trans E4 (show MkEnd w4 w5 mb _ (s + 1) i from ⟨k5, m5⟩)
  replace f_m := At3.kp f_m k5
  replace f_h := At3.kp f_h k5
  clear k5 m5 E4
  have HE : Hid _ := E5
  clear E5 f_m f_h
  go_wp2_with fail
  have hL : L ++ [⟨5, s, m.w, 0⟩] ++ [⟨4, (hm k).x, m.x, s⟩] ++ [⟨4, (hm k).y, m.y, s⟩] ++ [⟨4, (hm k).w, m.w, s⟩] = L ++ kpP s m k := by
    simp only [List.append_assoc]
    rfl
  exact bodyPost_end (v := .tuple #[]) (by simp [results, Tryz.results52]) rfl ⟨rfl, by rw [← hL]; exact HE.out⟩

set_option maxHeartbeats 1600000 in
theorem mkeep_line (mb : Nat) (L : List Stp) (s i : Nat) (m : Tr) (k : Nat) (w : World) (hM : Mkr w mb L s i) (hroom : Room L s 4) (h8 : S8 m) (hk : k < 16) :
    Calls Tryz.prog 52 #[mP mb, S [108, 105, 110, 101], trV m, .int .i64 k] w fun e w' => e = .returned (.tuple #[]) ∧ MkEnd w w' mb (L ++ kpL s m k) (s + 1) i := by
  have r1 := hroom.1
  have r2 := hroom.2
  have E0 : MkEnd w (w.alloc (trO m)) mb L s i := MkEnd.al (show MkEnd w w mb L s i from ⟨Kp.refl mb w, hM⟩) _
  have f_m : AtT (w.alloc (trO m)) w.heap.size m := heap_alloc_new w _
  have HH : Hid _ := And.intro E0 f_m
  clear E0 f_m hM
  go_enter Tryz.func52, Tryz.ntmps52
  go_wp2_with fail
  generalize w.alloc (.cells #[rV m.x, rV m.y, rV m.w] 84) = w0 at *
  obtain ⟨E0, f_m⟩ := HH.out
  clear HH
  refine (home_any k hk w0).mono ?_
  rintro e w1 ⟨rfl, k1⟩
  have E1 := MkEnd.al (E0.md k1) (.cells #[rV (hm k).x, rV (hm k).y, rV (hm k).w] 84)
  have f_h : AtT (w1.alloc (.cells #[rV (hm k).x, rV (hm k).y, rV (hm k).w] 84)) w1.heap.size (hm k) := heap_alloc_new w1 _
  replace f_m := At3.al (At3.md f_m k1) (.cells #[rV (hm k).x, rV (hm k).y, rV (hm k).w] 84)
  obtain ⟨q0, q1, q2⟩ := cells3 f_m
  have HH : Hid _ := And.intro E1 (And.intro f_m f_h)
  clear k1 E0 E1 f_m f_h
  go_wp2_with fail
  generalize w1.alloc (.cells #[rV (hm k).x, rV (hm k).y, rV (hm k).w] 84) = w1b at *
  clear q0 q1 q2
  obtain ⟨E1, f_m, f_h⟩ := HH.out
  clear HH
  refine (mfac_line mb _ s i m w1b E1.2 hroom h8).mono ?_
  rintro e w2 ⟨rfl, k2⟩
  have E2 : MkEnd w w2 mb (L ++ [⟨1, s, 1, 0⟩]) (s + 1) i := MkEnd.trans E1 k2
  replace f_m := At3.kp f_m k2.1
  replace f_h := At3.kp f_h k2.1
  clear k2 E1
  obtain ⟨q0, q1, q2⟩ := cells3 f_m
  obtain ⟨p0, p1, p2⟩ := cells3 f_h
  have HH : Hid _ := And.intro E2 (And.intro f_m f_h)
  clear E2 f_m f_h
  go_wp2_with fail
  clear q0 q1 q2 p0 p1 p2
  obtain ⟨E2, f_m, f_h⟩ := HH.out
  clear HH
  refine (madd_any mb _ (s + 1) i ⟨4, (hm k).x, m.x, s⟩ w2 E2.2 (by simp; omega) ⟨by show 4 < 256; omega, by show 3 * k < 256; omega, h8.1, by show s < 256; omega⟩).mono ?_
  rintro e w3 ⟨rfl, k3, m3⟩
  have E3 : MkEnd w w3 mb (L ++ [⟨1, s, 1, 0⟩] ++ [⟨4, (hm k).x, m.x, s⟩]) (s + 1) i := MkEnd.trans E2 (show MkEnd w2 w3 mb _ (s + 1) i from ⟨k3, m3⟩)
  replace f_m := At3.kp f_m k3
  replace f_h := At3.kp f_h k3
  clear k3 m3 E2
  obtain ⟨q0, q1, q2⟩ := cells3 f_m
  obtain ⟨p0, p1, p2⟩ := cells3 f_h
  have HH : Hid _ := And.intro E3 (And.intro f_m f_h)
  clear E3 f_m f_h
  go_wp2_with fail
  clear q0 q1 q2 p0 p1 p2
  obtain ⟨E3, f_m, f_h⟩ := HH.out
  clear HH
  refine (madd_any mb _ (s + 1) i ⟨4, (hm k).y, m.y, s⟩ w3 E3.2 (by simp; omega) ⟨by show 4 < 256; omega, by show 3 * k + 1 < 256; omega, h8.2.1, by show s < 256; omega⟩).mono ?_
  rintro e w4 ⟨rfl, k4, m4⟩
  have E4 : MkEnd w w4 mb (L ++ [⟨1, s, 1, 0⟩] ++ [⟨4, (hm k).x, m.x, s⟩] ++ [⟨4, (hm k).y, m.y, s⟩]) (s + 1) i := MkEnd.trans E3 (show MkEnd w3 w4 mb _ (s + 1) i from ⟨k4, m4⟩)
  replace f_m := At3.kp f_m k4
  replace f_h := At3.kp f_h k4
  clear k4 m4 E3
  obtain ⟨q0, q1, q2⟩ := cells3 f_m
  obtain ⟨p0, p1, p2⟩ := cells3 f_h
  have HH : Hid _ := And.intro E4 (And.intro f_m f_h)
  clear E4 f_m f_h
  go_wp2_with fail
  clear q0 q1 q2 p0 p1 p2
  obtain ⟨E4, f_m, f_h⟩ := HH.out
  clear HH
  refine (madd_any mb _ (s + 1) i ⟨4, (hm k).w, m.w, s⟩ w4 E4.2 (by simp; omega) ⟨by show 4 < 256; omega, by show 3 * k + 2 < 256; omega, h8.2.2, by show s < 256; omega⟩).mono ?_
  rintro e w5 ⟨rfl, k5, m5⟩
  have E5 : MkEnd w w5 mb (L ++ [⟨1, s, 1, 0⟩] ++ [⟨4, (hm k).x, m.x, s⟩] ++ [⟨4, (hm k).y, m.y, s⟩] ++ [⟨4, (hm k).w, m.w, s⟩]) (s + 1) i := MkEnd.trans E4 (show MkEnd w4 w5 mb _ (s + 1) i from ⟨k5, m5⟩)
  replace f_m := At3.kp f_m k5
  replace f_h := At3.kp f_h k5
  clear k5 m5 E4
  have HE : Hid _ := E5
  clear E5 f_m f_h
  go_wp2_with fail
  have hL : L ++ [⟨1, s, 1, 0⟩] ++ [⟨4, (hm k).x, m.x, s⟩] ++ [⟨4, (hm k).y, m.y, s⟩] ++ [⟨4, (hm k).w, m.w, s⟩] = L ++ kpL s m k := by
    simp only [List.append_assoc]
    rfl
  exact bodyPost_end (v := .tuple #[]) (by simp [results, Tryz.results52]) rfl ⟨rfl, by rw [← hL]; exact HE.out⟩

set_option maxHeartbeats 1600000 in
theorem mkeep_par (mb : Nat) (L : List Stp) (s i : Nat) (m : Tr) (k : Nat) (w : World) (hM : Mkr w mb L s i) (hroom : Room L s 4) (h8 : S8 m) (hk : k < 16) :
    Calls Tryz.prog 52 #[mP mb, S [112, 97, 114], trV m, .int .i64 k] w fun e w' => e = .returned (.tuple #[]) ∧ MkEnd w w' mb (L ++ kpL s m k) (s + 1) i := by
  have r1 := hroom.1
  have r2 := hroom.2
  have E0 : MkEnd w (w.alloc (trO m)) mb L s i := MkEnd.al (show MkEnd w w mb L s i from ⟨Kp.refl mb w, hM⟩) _
  have f_m : AtT (w.alloc (trO m)) w.heap.size m := heap_alloc_new w _
  have HH : Hid _ := And.intro E0 f_m
  clear E0 f_m hM
  go_enter Tryz.func52, Tryz.ntmps52
  go_wp2_with fail
  generalize w.alloc (.cells #[rV m.x, rV m.y, rV m.w] 84) = w0 at *
  obtain ⟨E0, f_m⟩ := HH.out
  clear HH
  refine (home_any k hk w0).mono ?_
  rintro e w1 ⟨rfl, k1⟩
  have E1 := MkEnd.al (E0.md k1) (.cells #[rV (hm k).x, rV (hm k).y, rV (hm k).w] 84)
  have f_h : AtT (w1.alloc (.cells #[rV (hm k).x, rV (hm k).y, rV (hm k).w] 84)) w1.heap.size (hm k) := heap_alloc_new w1 _
  replace f_m := At3.al (At3.md f_m k1) (.cells #[rV (hm k).x, rV (hm k).y, rV (hm k).w] 84)
  obtain ⟨q0, q1, q2⟩ := cells3 f_m
  have HH : Hid _ := And.intro E1 (And.intro f_m f_h)
  clear k1 E0 E1 f_m f_h
  go_wp2_with fail
  generalize w1.alloc (.cells #[rV (hm k).x, rV (hm k).y, rV (hm k).w] 84) = w1b at *
  clear q0 q1 q2
  obtain ⟨E1, f_m, f_h⟩ := HH.out
  clear HH
  refine (mfac_par mb _ s i m w1b E1.2 hroom h8).mono ?_
  rintro e w2 ⟨rfl, k2⟩
  have E2 : MkEnd w w2 mb (L ++ [⟨1, s, 1, 0⟩]) (s + 1) i := MkEnd.trans E1 k2
  replace f_m := At3.kp f_m k2.1
  replace f_h := At3.kp f_h k2.1
  clear k2 E1
  obtain ⟨q0, q1, q2⟩ := cells3 f_m
  obtain ⟨p0, p1, p2⟩ := cells3 f_h
  have HH : Hid _ := And.intro E2 (And.intro f_m f_h)
  clear E2 f_m f_h
  go_wp2_with fail
  clear q0 q1 q2 p0 p1 p2
  obtain ⟨E2, f_m, f_h⟩ := HH.out
  clear HH
  refine (madd_any mb _ (s + 1) i ⟨4, (hm k).x, m.x, s⟩ w2 E2.2 (by simp; omega) ⟨by show 4 < 256; omega, by show 3 * k < 256; omega, h8.1, by show s < 256; omega⟩).mono ?_
  rintro e w3 ⟨rfl, k3, m3⟩
  have E3 : MkEnd w w3 mb (L ++ [⟨1, s, 1, 0⟩] ++ [⟨4, (hm k).x, m.x, s⟩]) (s + 1) i := MkEnd.trans E2 (show MkEnd w2 w3 mb _ (s + 1) i from ⟨k3, m3⟩)
  replace f_m := At3.kp f_m k3
  replace f_h := At3.kp f_h k3
  clear k3 m3 E2
  obtain ⟨q0, q1, q2⟩ := cells3 f_m
  obtain ⟨p0, p1, p2⟩ := cells3 f_h
  have HH : Hid _ := And.intro E3 (And.intro f_m f_h)
  clear E3 f_m f_h
  go_wp2_with fail
  clear q0 q1 q2 p0 p1 p2
  obtain ⟨E3, f_m, f_h⟩ := HH.out
  clear HH
  refine (madd_any mb _ (s + 1) i ⟨4, (hm k).y, m.y, s⟩ w3 E3.2 (by simp; omega) ⟨by show 4 < 256; omega, by show 3 * k + 1 < 256; omega, h8.2.1, by show s < 256; omega⟩).mono ?_
  rintro e w4 ⟨rfl, k4, m4⟩
  have E4 : MkEnd w w4 mb (L ++ [⟨1, s, 1, 0⟩] ++ [⟨4, (hm k).x, m.x, s⟩] ++ [⟨4, (hm k).y, m.y, s⟩]) (s + 1) i := MkEnd.trans E3 (show MkEnd w3 w4 mb _ (s + 1) i from ⟨k4, m4⟩)
  replace f_m := At3.kp f_m k4
  replace f_h := At3.kp f_h k4
  clear k4 m4 E3
  obtain ⟨q0, q1, q2⟩ := cells3 f_m
  obtain ⟨p0, p1, p2⟩ := cells3 f_h
  have HH : Hid _ := And.intro E4 (And.intro f_m f_h)
  clear E4 f_m f_h
  go_wp2_with fail
  clear q0 q1 q2 p0 p1 p2
  obtain ⟨E4, f_m, f_h⟩ := HH.out
  clear HH
  refine (madd_any mb _ (s + 1) i ⟨4, (hm k).w, m.w, s⟩ w4 E4.2 (by simp; omega) ⟨by show 4 < 256; omega, by show 3 * k + 2 < 256; omega, h8.2.2, by show s < 256; omega⟩).mono ?_
  rintro e w5 ⟨rfl, k5, m5⟩
  have E5 : MkEnd w w5 mb (L ++ [⟨1, s, 1, 0⟩] ++ [⟨4, (hm k).x, m.x, s⟩] ++ [⟨4, (hm k).y, m.y, s⟩] ++ [⟨4, (hm k).w, m.w, s⟩]) (s + 1) i := MkEnd.trans E4 (show MkEnd w4 w5 mb _ (s + 1) i from ⟨k5, m5⟩)
  replace f_m := At3.kp f_m k5
  replace f_h := At3.kp f_h k5
  clear k5 m5 E4
  have HE : Hid _ := E5
  clear E5 f_m f_h
  go_wp2_with fail
  have hL : L ++ [⟨1, s, 1, 0⟩] ++ [⟨4, (hm k).x, m.x, s⟩] ++ [⟨4, (hm k).y, m.y, s⟩] ++ [⟨4, (hm k).w, m.w, s⟩] = L ++ kpL s m k := by
    simp only [List.append_assoc]
    rfl
  exact bodyPost_end (v := .tuple #[]) (by simp [results, Tryz.results52]) rfl ⟨rfl, by rw [← hL]; exact HE.out⟩

set_option maxHeartbeats 1600000 in
theorem mkeep_perp (mb : Nat) (L : List Stp) (s i : Nat) (m : Tr) (k : Nat) (w : World) (hM : Mkr w mb L s i) (hroom : Room L s 4) (h8 : S8 m) (hk : k < 16) :
    Calls Tryz.prog 52 #[mP mb, S [112, 101, 114, 112], trV m, .int .i64 k] w fun e w' => e = .returned (.tuple #[]) ∧ MkEnd w w' mb (L ++ kpL s m k) (s + 1) i := by
  have r1 := hroom.1
  have r2 := hroom.2
  have E0 : MkEnd w (w.alloc (trO m)) mb L s i := MkEnd.al (show MkEnd w w mb L s i from ⟨Kp.refl mb w, hM⟩) _
  have f_m : AtT (w.alloc (trO m)) w.heap.size m := heap_alloc_new w _
  have HH : Hid _ := And.intro E0 f_m
  clear E0 f_m hM
  go_enter Tryz.func52, Tryz.ntmps52
  go_wp2_with fail
  generalize w.alloc (.cells #[rV m.x, rV m.y, rV m.w] 84) = w0 at *
  obtain ⟨E0, f_m⟩ := HH.out
  clear HH
  refine (home_any k hk w0).mono ?_
  rintro e w1 ⟨rfl, k1⟩
  have E1 := MkEnd.al (E0.md k1) (.cells #[rV (hm k).x, rV (hm k).y, rV (hm k).w] 84)
  have f_h : AtT (w1.alloc (.cells #[rV (hm k).x, rV (hm k).y, rV (hm k).w] 84)) w1.heap.size (hm k) := heap_alloc_new w1 _
  replace f_m := At3.al (At3.md f_m k1) (.cells #[rV (hm k).x, rV (hm k).y, rV (hm k).w] 84)
  obtain ⟨q0, q1, q2⟩ := cells3 f_m
  have HH : Hid _ := And.intro E1 (And.intro f_m f_h)
  clear k1 E0 E1 f_m f_h
  go_wp2_with fail
  generalize w1.alloc (.cells #[rV (hm k).x, rV (hm k).y, rV (hm k).w] 84) = w1b at *
  clear q0 q1 q2
  obtain ⟨E1, f_m, f_h⟩ := HH.out
  clear HH
  refine (mfac_perp mb _ s i m w1b E1.2 hroom h8).mono ?_
  rintro e w2 ⟨rfl, k2⟩
  have E2 : MkEnd w w2 mb (L ++ [⟨1, s, 1, 0⟩]) (s + 1) i := MkEnd.trans E1 k2
  replace f_m := At3.kp f_m k2.1
  replace f_h := At3.kp f_h k2.1
  clear k2 E1
  obtain ⟨q0, q1, q2⟩ := cells3 f_m
  obtain ⟨p0, p1, p2⟩ := cells3 f_h
  have HH : Hid _ := And.intro E2 (And.intro f_m f_h)
  clear E2 f_m f_h
  go_wp2_with fail
  clear q0 q1 q2 p0 p1 p2
  obtain ⟨E2, f_m, f_h⟩ := HH.out
  clear HH
  refine (madd_any mb _ (s + 1) i ⟨4, (hm k).x, m.x, s⟩ w2 E2.2 (by simp; omega) ⟨by show 4 < 256; omega, by show 3 * k < 256; omega, h8.1, by show s < 256; omega⟩).mono ?_
  rintro e w3 ⟨rfl, k3, m3⟩
  have E3 : MkEnd w w3 mb (L ++ [⟨1, s, 1, 0⟩] ++ [⟨4, (hm k).x, m.x, s⟩]) (s + 1) i := MkEnd.trans E2 (show MkEnd w2 w3 mb _ (s + 1) i from ⟨k3, m3⟩)
  replace f_m := At3.kp f_m k3
  replace f_h := At3.kp f_h k3
  clear k3 m3 E2
  obtain ⟨q0, q1, q2⟩ := cells3 f_m
  obtain ⟨p0, p1, p2⟩ := cells3 f_h
  have HH : Hid _ := And.intro E3 (And.intro f_m f_h)
  clear E3 f_m f_h
  go_wp2_with fail
  clear q0 q1 q2 p0 p1 p2
  obtain ⟨E3, f_m, f_h⟩ := HH.out
  clear HH
  refine (madd_any mb _ (s + 1) i ⟨4, (hm k).y, m.y, s⟩ w3 E3.2 (by simp; omega) ⟨by show 4 < 256; omega, by show 3 * k + 1 < 256; omega, h8.2.1, by show s < 256; omega⟩).mono ?_
  rintro e w4 ⟨rfl, k4, m4⟩
  have E4 : MkEnd w w4 mb (L ++ [⟨1, s, 1, 0⟩] ++ [⟨4, (hm k).x, m.x, s⟩] ++ [⟨4, (hm k).y, m.y, s⟩]) (s + 1) i := MkEnd.trans E3 (show MkEnd w3 w4 mb _ (s + 1) i from ⟨k4, m4⟩)
  replace f_m := At3.kp f_m k4
  replace f_h := At3.kp f_h k4
  clear k4 m4 E3
  obtain ⟨q0, q1, q2⟩ := cells3 f_m
  obtain ⟨p0, p1, p2⟩ := cells3 f_h
  have HH : Hid _ := And.intro E4 (And.intro f_m f_h)
  clear E4 f_m f_h
  go_wp2_with fail
  clear q0 q1 q2 p0 p1 p2
  obtain ⟨E4, f_m, f_h⟩ := HH.out
  clear HH
  refine (madd_any mb _ (s + 1) i ⟨4, (hm k).w, m.w, s⟩ w4 E4.2 (by simp; omega) ⟨by show 4 < 256; omega, by show 3 * k + 2 < 256; omega, h8.2.2, by show s < 256; omega⟩).mono ?_
  rintro e w5 ⟨rfl, k5, m5⟩
  have E5 : MkEnd w w5 mb (L ++ [⟨1, s, 1, 0⟩] ++ [⟨4, (hm k).x, m.x, s⟩] ++ [⟨4, (hm k).y, m.y, s⟩] ++ [⟨4, (hm k).w, m.w, s⟩]) (s + 1) i := MkEnd.trans E4 (show MkEnd w4 w5 mb _ (s + 1) i from ⟨k5, m5⟩)
  replace f_m := At3.kp f_m k5
  replace f_h := At3.kp f_h k5
  clear k5 m5 E4
  have HE : Hid _ := E5
  clear E5 f_m f_h
  go_wp2_with fail
  have hL : L ++ [⟨1, s, 1, 0⟩] ++ [⟨4, (hm k).x, m.x, s⟩] ++ [⟨4, (hm k).y, m.y, s⟩] ++ [⟨4, (hm k).w, m.w, s⟩] = L ++ kpL s m k := by
    simp only [List.append_assoc]
    rfl
  exact bodyPost_end (v := .tuple #[]) (by simp [results, Tryz.results52]) rfl ⟨rfl, by rw [← hL]; exact HE.out⟩

end Go.Proofs.YtmnfndpbblpjiabGreatDoor

/- The reader's small steps: peek, take, takeLetter. -/
namespace Go.Proofs.YtmnfndpbblpjiabGreatDoor
set_option linter.unusedVariables false
open Go.RowKit Pu

set_option maxHeartbeats 400000 in
theorem peek_any (rb : Nat) (s : ByteArray) (k : Nat) (w : World) (hs : s.size ≤ 300) (hk : k ≤ s.size) (hr : Rd w rb s k) :
    Calls Tryz.prog 138 #[.pointer (some ⟨rb, 0, none⟩)] w fun e w' => e = .returned (.int .u8 (g s k)) ∧ ∃ n, w' = w.drewN n := by
  have h0 := hr.c0
  have h1 := hr.c1
  clear hr
  have hg : decide ((k : Int) < 0) = false := by simp
  by_cases hlt : k < s.size
  · have HG : Hid (s[k].toNat = g s k) := (g_in hlt).symm
    go_enter Tryz.func138, Tryz.ntmps138
    go_wp2
    go_quiet (fail)
    go_wp2
    go_quiet (fail)
    go_wp2
    go_ret
    exact ⟨by rw [← HG.out]; rfl, _, World.drewN_drewN ..⟩
  · have HG : Hid (g s k = 0) := g_out (by omega)
    go_enter Tryz.func138, Tryz.ntmps138
    go_wp2
    go_quiet (fail)
    go_wp2
    go_ret
    exact ⟨by rw [HG.out]; rfl, _, rfl⟩

set_option maxHeartbeats 400000 in
theorem take_yes (rb : Nat) (s : ByteArray) (k c : Nat) (w : World) (hs : s.size ≤ 300) (hk : k ≤ s.size) (hr : Rd w rb s k) (hc0 : 0 < c) (hc : g s k = c) :
    Calls Tryz.prog 96 #[.pointer (some ⟨rb, 0, none⟩), .int .u8 c] w fun e w' => e = .returned (.bool true) ∧ Rd w' rb s (k + 1) ∧ k + 1 ≤ s.size ∧ Mod (fun i => i = rb) w w' := by
  have hlt : k < s.size := lt_of_g (by omega)
  have h1 := hr.c1
  have hf := hr.f1
  have hb : ((g s k : Int) != (c : Int)) = false := by simp [hc]
  have HC : Hid (g s k = c) := hc
  clear hc
  go_enter Tryz.func96, Tryz.ntmps96
  go_wp2_with (go_at_call 138; refine (peek_any rb s k _ hs hk hr).mono ?_; rintro e w' ⟨rfl, n, rfl⟩)
  go_ret
  exact ⟨rfl, by have := (hr.drewN n).set (k + 1); simpa using this, hlt, (Mod.same n _ w).setCell _ _ (fun _ => rfl)⟩

set_option maxHeartbeats 400000 in
theorem take_no (rb : Nat) (s : ByteArray) (k c : Nat) (w : World) (hs : s.size ≤ 300) (hk : k ≤ s.size) (hr : Rd w rb s k) (hc : g s k ≠ c) :
    Calls Tryz.prog 96 #[.pointer (some ⟨rb, 0, none⟩), .int .u8 c] w fun e w' => e = .returned (.bool false) ∧ Rd w' rb s k ∧ Mod (fun i => i = rb) w w' := by
  have hb : ((g s k : Int) != (c : Int)) = true := by simp; omega
  go_enter Tryz.func96, Tryz.ntmps96
  go_wp2_with (go_at_call 138; refine (peek_any rb s k _ hs hk hr).mono ?_; rintro e w' ⟨rfl, n, rfl⟩)
  go_ret
  exact ⟨rfl, hr.drewN n, Mod.same n _ w⟩

set_option maxHeartbeats 400000 in
theorem letter_yes (rb : Nat) (s : ByteArray) (k : Nat) (w : World) (hs : s.size ≤ 300) (hk : k ≤ s.size) (hr : Rd w rb s k) (hc : isL (g s k) = true) :
    Calls Tryz.prog 173 #[.pointer (some ⟨rb, 0, none⟩)] w fun e w' => e = .returned (.int .u8 (g s k)) ∧ Rd w' rb s (k + 1) ∧ k + 1 ≤ s.size ∧ Mod (fun i => i = rb) w w' := by
  obtain ⟨ha, hz⟩ := (isL_iff _).1 hc
  have hlt : k < s.size := lt_of_g (by omega)
  have h1 := hr.c1
  have hf := hr.f1
  clear hc
  go_enter Tryz.func173, Tryz.ntmps173
  go_wp2_with (go_at_call 138; refine (peek_any rb s k _ hs hk hr).mono ?_; rintro e w' ⟨rfl, n, rfl⟩)
  go_ret
  exact ⟨rfl, by have := (hr.drewN n).set (k + 1); simpa using this, hlt, (Mod.same n _ w).setCell _ _ (fun _ => rfl)⟩

set_option maxHeartbeats 400000 in
theorem letter_no (rb : Nat) (s : ByteArray) (k : Nat) (w : World) (hs : s.size ≤ 300) (hk : k ≤ s.size) (hr : Rd w rb s k) (hc : isL (g s k) = false) :
    Calls Tryz.prog 173 #[.pointer (some ⟨rb, 0, none⟩)] w fun e w' => e = .returned (.int .u8 0) ∧ Rd w' rb s k ∧ Mod (fun i => i = rb) w w' := by
  have hl : ¬ (97 ≤ g s k ∧ g s k ≤ 122) := fun h => by rw [(isL_iff _).2 h] at hc; cases hc
  clear hc
  by_cases h9 : g s k < 97
  all_goals
    go_enter Tryz.func173, Tryz.ntmps173
    go_wp2_with (go_at_call 138; refine (peek_any rb s k _ hs hk hr).mono ?_; rintro e w' ⟨rfl, n, rfl⟩)
    go_ret
    exact ⟨rfl, hr.drewN n, Mod.same n _ w⟩
end Go.Proofs.YtmnfndpbblpjiabGreatDoor
