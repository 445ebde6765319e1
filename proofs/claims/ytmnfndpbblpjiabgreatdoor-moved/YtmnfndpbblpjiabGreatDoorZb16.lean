/- The maker's questions, word by word. -/
import Derived.Test.YtmnfndpbblpjiabGreatDoorZb15
import Derived.Test.YtmnfndpbblpjiabGreatDoorZb01
import Derived.Test.YtmnfndpbblpjiabGreatDoorZb05
namespace Go.Proofs.YtmnfndpbblpjiabGreatDoor
open Go.RowKit Pu
abbrev thV (t : Th) : Value := .agg #[rV t.a.x, rV t.a.y, rV t.a.w, rV t.b.x, rV t.b.y, rV t.b.w, rV t.c.x, rV t.c.y, rV t.c.w, rV t.d.x, rV t.d.y, rV t.d.w]
abbrev thB (t : Th) : Obj := .cells #[rV t.a.x, rV t.a.y, rV t.a.w, rV t.b.x, rV t.b.y, rV t.b.w, rV t.c.x, rV t.c.y, rV t.c.w, rV t.d.x, rV t.d.y, rV t.d.w] 86
def AtH (w : World) (k : Nat) (t : Th) : Prop := w.heap[k]? = some (thB t)
theorem AtH.md {w w' : World} {k : Nat} {t : Th} (h : AtH w k t) (hk : Mod (fun _ => False) w w') : AtH w' k t := hk.keep h (fun f => f)
theorem AtH.kp {w w' : World} {mb k : Nat} {t : Th} (h : AtH w k t) (hk : Kp mb w w') : AtH w' k t := hk.keep h (by decide) (by decide)
theorem AtH.al {w : World} {k : Nat} {t : Th} (h : AtH w k t) (o : Obj) : AtH (w.alloc o) k t := h.md ((Mod.refl _ w).alloc o)
theorem AtH.new (w : World) (t : Th) : AtH (w.alloc (thB t)) w.heap.size t := heap_alloc_new w _
/-- Its twelve cells. -/
structure Cs12 (w : World) (k : Nat) (t : Th) : Prop where
  c0 : w.cell? ⟨k, 0, none⟩ = some (rV t.a.x)
  c1 : w.cell? ⟨k, 1, none⟩ = some (rV t.a.y)
  c2 : w.cell? ⟨k, 2, none⟩ = some (rV t.a.w)
  c3 : w.cell? ⟨k, 3, none⟩ = some (rV t.b.x)
  c4 : w.cell? ⟨k, 4, none⟩ = some (rV t.b.y)
  c5 : w.cell? ⟨k, 5, none⟩ = some (rV t.b.w)
  c6 : w.cell? ⟨k, 6, none⟩ = some (rV t.c.x)
  c7 : w.cell? ⟨k, 7, none⟩ = some (rV t.c.y)
  c8 : w.cell? ⟨k, 8, none⟩ = some (rV t.c.w)
  c9 : w.cell? ⟨k, 9, none⟩ = some (rV t.d.x)
  c10 : w.cell? ⟨k, 10, none⟩ = some (rV t.d.y)
  c11 : w.cell? ⟨k, 11, none⟩ = some (rV t.d.w)
theorem AtH.cs {w : World} {k : Nat} {t : Th} (h : AtH w k t) : Cs12 w k t := by
  unfold AtH at h
  constructor <;> simp [World.cell?, h]
/-- Registers are bytes. -/
structure S12 (t : Th) : Prop where
  a : S8 t.a
  b : S8 t.b
  c : S8 t.c
  d : S8 t.d

set_option maxHeartbeats 800000 in
theorem mgap_con (mb : Nat) (L : List Stp) (s i : Nat) (t : Th) (w : World) (hM : Mkr w mb L s i) (hroom : Room L s 50) (h8 : S12 t) :
    Calls Tryz.prog 81 #[mP mb, S [99, 111, 110], thV t] w fun e w' => e = .returned (rV (s + 49)) ∧ MkEnd w w' mb (L ++ rndL s t.a t.b t.c t.d) (s + 50) i := by
  have r2 := hroom.2
  have E0 : MkEnd w (w.alloc (thB t)) mb L s i := MkEnd.al (show MkEnd w w mb L s i from ⟨Kp.refl mb w, hM⟩) _
  have f_t := AtH.new w t
  obtain ⟨c0, c1, c2, c3, c4, c5, c6, c7, c8, c9, c10, c11⟩ := f_t.cs
  have HH : Hid _ := And.intro E0 f_t
  clear E0 f_t hM
  go_enter Tryz.func81, Tryz.ntmps81
  go_wp2_with fail
  generalize w.alloc (.cells #[rV t.a.x, rV t.a.y, rV t.a.w, rV t.b.x, rV t.b.y, rV t.b.w, rV t.c.x, rV t.c.y, rV t.c.w, rV t.d.x, rV t.d.y, rV t.d.w] 86) = w0 at *
  clear c0 c1 c2 c3 c4 c5 c6 c7 c8 c9 c10 c11
  obtain ⟨E0, f_t⟩ := HH.out
  clear HH
  refine (mrnd_any mb _ s i t.a t.b t.c t.d w0 E0.2 (hroom.mono (by omega)) h8.a h8.b h8.c h8.d).mono ?_
  rintro e w1 ⟨rfl, k1⟩
  have HE : Hid _ := MkEnd.trans E0 k1
  clear k1 E0 f_t
  go_wp2_with fail
  go_ret
  exact ⟨rfl, HE.out⟩

set_option maxHeartbeats 800000 in
theorem mgap_on (mb : Nat) (L : List Stp) (s i : Nat) (t : Th) (w : World) (hM : Mkr w mb L s i) (hroom : Room L s 5) (h8 : S12 t) :
    Calls Tryz.prog 81 #[mP mb, S [111, 110], thV t] w fun e w' => e = .returned (rV (s + 4)) ∧ MkEnd w w' mb (L ++ dotL s t.a t.b) (s + 5) i := by
  have r2 := hroom.2
  have E0 : MkEnd w (w.alloc (thB t)) mb L s i := MkEnd.al (show MkEnd w w mb L s i from ⟨Kp.refl mb w, hM⟩) _
  have f_t := AtH.new w t
  obtain ⟨c0, c1, c2, c3, c4, c5, c6, c7, c8, c9, c10, c11⟩ := f_t.cs
  have HH : Hid _ := And.intro E0 f_t
  clear E0 f_t hM
  go_enter Tryz.func81, Tryz.ntmps81
  go_wp2_with fail
  generalize w.alloc (.cells #[rV t.a.x, rV t.a.y, rV t.a.w, rV t.b.x, rV t.b.y, rV t.b.w, rV t.c.x, rV t.c.y, rV t.c.w, rV t.d.x, rV t.d.y, rV t.d.w] 86) = w0 at *
  clear c0 c1 c2 c3 c4 c5 c6 c7 c8 c9 c10 c11
  obtain ⟨E0, f_t⟩ := HH.out
  clear HH
  refine (mdot_any mb _ s i t.a t.b w0 E0.2 (hroom.mono (by omega)) h8.a h8.b).mono ?_
  rintro e w1 ⟨rfl, k1⟩
  have HE : Hid _ := MkEnd.trans E0 k1
  clear k1 E0 f_t
  go_wp2_with fail
  go_ret
  exact ⟨rfl, HE.out⟩

set_option maxHeartbeats 800000 in
theorem mgap_pll (mb : Nat) (L : List Stp) (s i : Nat) (t : Th) (w : World) (hM : Mkr w mb L s i) (hroom : Room L s 3) (h8 : S12 t) :
    Calls Tryz.prog 81 #[mP mb, S [112, 108, 108], thV t] w fun e w' => e = .returned (rV (s + 2)) ∧ MkEnd w w' mb (L ++ prodD s t.a.x t.b.y t.a.y t.b.x) (s + 3) i := by
  have r2 := hroom.2
  have E0 : MkEnd w (w.alloc (thB t)) mb L s i := MkEnd.al (show MkEnd w w mb L s i from ⟨Kp.refl mb w, hM⟩) _
  have f_t := AtH.new w t
  obtain ⟨c0, c1, c2, c3, c4, c5, c6, c7, c8, c9, c10, c11⟩ := f_t.cs
  have HH : Hid _ := And.intro E0 f_t
  clear E0 f_t hM
  go_enter Tryz.func81, Tryz.ntmps81
  go_wp2_with fail
  generalize w.alloc (.cells #[rV t.a.x, rV t.a.y, rV t.a.w, rV t.b.x, rV t.b.y, rV t.b.w, rV t.c.x, rV t.c.y, rV t.c.w, rV t.d.x, rV t.d.y, rV t.d.w] 86) = w0 at *
  clear c0 c1 c2 c3 c4 c5 c6 c7 c8 c9 c10 c11
  obtain ⟨E0, f_t⟩ := HH.out
  clear HH
  refine (mpD_any mb _ s i t.a.x t.b.y t.a.y t.b.x w0 E0.2 (hroom.mono (by omega)) h8.a.1 h8.b.2.1 h8.a.2.1 h8.b.1).mono ?_
  rintro e w1 ⟨rfl, k1⟩
  have HE : Hid _ := MkEnd.trans E0 k1
  clear k1 E0 f_t
  go_wp2_with fail
  go_ret
  exact ⟨rfl, HE.out⟩

set_option maxHeartbeats 800000 in
theorem mgap_prp (mb : Nat) (L : List Stp) (s i : Nat) (t : Th) (w : World) (hM : Mkr w mb L s i) (hroom : Room L s 3) (h8 : S12 t) :
    Calls Tryz.prog 81 #[mP mb, S [112, 114, 112], thV t] w fun e w' => e = .returned (rV (s + 2)) ∧ MkEnd w w' mb (L ++ prodS s t.a.x t.b.x t.a.y t.b.y) (s + 3) i := by
  have r2 := hroom.2
  have E0 : MkEnd w (w.alloc (thB t)) mb L s i := MkEnd.al (show MkEnd w w mb L s i from ⟨Kp.refl mb w, hM⟩) _
  have f_t := AtH.new w t
  obtain ⟨c0, c1, c2, c3, c4, c5, c6, c7, c8, c9, c10, c11⟩ := f_t.cs
  have HH : Hid _ := And.intro E0 f_t
  clear E0 f_t hM
  go_enter Tryz.func81, Tryz.ntmps81
  go_wp2_with fail
  generalize w.alloc (.cells #[rV t.a.x, rV t.a.y, rV t.a.w, rV t.b.x, rV t.b.y, rV t.b.w, rV t.c.x, rV t.c.y, rV t.c.w, rV t.d.x, rV t.d.y, rV t.d.w] 86) = w0 at *
  clear c0 c1 c2 c3 c4 c5 c6 c7 c8 c9 c10 c11
  obtain ⟨E0, f_t⟩ := HH.out
  clear HH
  refine (mpS_any mb _ s i t.a.x t.b.x t.a.y t.b.y w0 E0.2 (hroom.mono (by omega)) h8.a.1 h8.b.1 h8.a.2.1 h8.b.2.1).mono ?_
  rintro e w1 ⟨rfl, k1⟩
  have HE : Hid _ := MkEnd.trans E0 k1
  clear k1 E0 f_t
  go_wp2_with fail
  go_ret
  exact ⟨rfl, HE.out⟩

set_option maxHeartbeats 800000 in
theorem mgap_col (mb : Nat) (L : List Stp) (s i : Nat) (t : Th) (w : World) (hM : Mkr w mb L s i) (hroom : Room L s 14) (h8 : S12 t) :
    Calls Tryz.prog 81 #[mP mb, S [99, 111, 108], thV t] w fun e w' => e = .returned (rV (s + 13)) ∧ MkEnd w w' mb (L ++ volL s t.a t.b t.c) (s + 14) i := by
  have r2 := hroom.2
  have E0 : MkEnd w (w.alloc (thB t)) mb L s i := MkEnd.al (show MkEnd w w mb L s i from ⟨Kp.refl mb w, hM⟩) _
  have f_t := AtH.new w t
  obtain ⟨c0, c1, c2, c3, c4, c5, c6, c7, c8, c9, c10, c11⟩ := f_t.cs
  have HH : Hid _ := And.intro E0 f_t
  clear E0 f_t hM
  go_enter Tryz.func81, Tryz.ntmps81
  go_wp2_with fail
  generalize w.alloc (.cells #[rV t.a.x, rV t.a.y, rV t.a.w, rV t.b.x, rV t.b.y, rV t.b.w, rV t.c.x, rV t.c.y, rV t.c.w, rV t.d.x, rV t.d.y, rV t.d.w] 86) = w0 at *
  clear c0 c1 c2 c3 c4 c5 c6 c7 c8 c9 c10 c11
  obtain ⟨E0, f_t⟩ := HH.out
  clear HH
  refine (mvol_any mb _ s i t.a t.b t.c w0 E0.2 (hroom.mono (by omega)) h8.a h8.b h8.c).mono ?_
  rintro e w1 ⟨rfl, k1⟩
  have HE : Hid _ := MkEnd.trans E0 k1
  clear k1 E0 f_t
  go_wp2_with fail
  go_ret
  exact ⟨rfl, HE.out⟩

set_option maxHeartbeats 800000 in
theorem mgap_cc (mb : Nat) (L : List Stp) (s i : Nat) (t : Th) (w : World) (hM : Mkr w mb L s i) (hroom : Room L s 14) (h8 : S12 t) :
    Calls Tryz.prog 81 #[mP mb, S [99, 99], thV t] w fun e w' => e = .returned (rV (s + 13)) ∧ MkEnd w w' mb (L ++ volL s t.a t.b t.c) (s + 14) i := by
  have r2 := hroom.2
  have E0 : MkEnd w (w.alloc (thB t)) mb L s i := MkEnd.al (show MkEnd w w mb L s i from ⟨Kp.refl mb w, hM⟩) _
  have f_t := AtH.new w t
  obtain ⟨c0, c1, c2, c3, c4, c5, c6, c7, c8, c9, c10, c11⟩ := f_t.cs
  have HH : Hid _ := And.intro E0 f_t
  clear E0 f_t hM
  go_enter Tryz.func81, Tryz.ntmps81
  go_wp2_with fail
  generalize w.alloc (.cells #[rV t.a.x, rV t.a.y, rV t.a.w, rV t.b.x, rV t.b.y, rV t.b.w, rV t.c.x, rV t.c.y, rV t.c.w, rV t.d.x, rV t.d.y, rV t.d.w] 86) = w0 at *
  clear c0 c1 c2 c3 c4 c5 c6 c7 c8 c9 c10 c11
  obtain ⟨E0, f_t⟩ := HH.out
  clear HH
  refine (mvol_any mb _ s i t.a t.b t.c w0 E0.2 (hroom.mono (by omega)) h8.a h8.b h8.c).mono ?_
  rintro e w1 ⟨rfl, k1⟩
  have HE : Hid _ := MkEnd.trans E0 k1
  clear k1 E0 f_t
  go_wp2_with fail
  go_ret
  exact ⟨rfl, HE.out⟩

set_option maxHeartbeats 800000 in
theorem mgap_same (mb : Nat) (L : List Stp) (s i : Nat) (t : Th) (w : World) (hM : Mkr w mb L s i) (hroom : Room L s 10) (h8 : S12 t) :
    Calls Tryz.prog 81 #[mP mb, S [115, 97, 109, 101], thV t] w fun e w' => e = .returned (rV (s + 9)) ∧ MkEnd w w' mb (L ++ samL s t.a t.b) (s + 10) i := by
  have r2 := hroom.2
  have E0 : MkEnd w (w.alloc (thB t)) mb L s i := MkEnd.al (show MkEnd w w mb L s i from ⟨Kp.refl mb w, hM⟩) _
  have f_t := AtH.new w t
  obtain ⟨c0, c1, c2, c3, c4, c5, c6, c7, c8, c9, c10, c11⟩ := f_t.cs
  have HH : Hid _ := And.intro E0 f_t
  clear E0 f_t hM
  go_enter Tryz.func81, Tryz.ntmps81
  go_wp2_with fail
  generalize w.alloc (.cells #[rV t.a.x, rV t.a.y, rV t.a.w, rV t.b.x, rV t.b.y, rV t.b.w, rV t.c.x, rV t.c.y, rV t.c.w, rV t.d.x, rV t.d.y, rV t.d.w] 86) = w0 at *
  clear c0 c1 c2 c3 c4 c5 c6 c7 c8 c9 c10 c11
  obtain ⟨E0, f_t⟩ := HH.out
  clear HH
  refine (mway_any mb _ s i t.a t.b w0 E0.2 (hroom.mono (by omega)) h8.a h8.b).mono ?_
  rintro e w1 ⟨rfl, k1⟩
  have E1 := MkEnd.trans E0 k1
  have R1 : Room (L ++ wayL s t.a t.b) (s + 7) 3 := Room.app 7 (k := 3) hroom (Nat.le_of_eq rfl)
  have f_v : AtT (w1.alloc (.cells #[rV (wayR s).x, rV (wayR s).y, rV (wayR s).w] 84)) w1.heap.size (wayR s) := heap_alloc_new w1 _
  replace E1 := MkEnd.al E1 (.cells #[rV (wayR s).x, rV (wayR s).y, rV (wayR s).w] 84)
  obtain ⟨q0, q1, q2⟩ := cells3 f_v
  have HH : Hid _ := E1
  clear k1 E0 E1 f_t f_v hroom
  go_wp2_with fail
  generalize w1.alloc (.cells #[rV (wayR s).x, rV (wayR s).y, rV (wayR s).w] 84) = w1b at *
  have E1 := HH.out
  clear HH q0 q1 q2
  refine (mpS_any mb _ (s + 7) i (wayR s).x (wayR s).x (wayR s).y (wayR s).y w1b E1.2 R1 (by show s + 2 < 256; omega) (by show s + 2 < 256; omega) (by show s + 5 < 256; omega) (by show s + 5 < 256; omega)).mono ?_
  rintro e w2 ⟨rfl, k2⟩
  have HE : Hid _ := MkEnd.trans E1 k2
  clear k2 E1
  go_wp2_with fail
  go_ret
  have hL : (L ++ wayL s t.a t.b) ++ prodS (s + 7) (wayR s).x (wayR s).x (wayR s).y (wayR s).y = L ++ samL s t.a t.b := by
    simp only [List.append_assoc]
    rfl
  exact ⟨rfl, by rw [← hL]; exact HE.out⟩

set_option maxHeartbeats 800000 in
theorem mask_ccw (mb : Nat) (L : List Stp) (s i : Nat) (t : Th) (w : World) (hM : Mkr w mb L s i) (hroom : Room L s 14) (h8 : S12 t) :
    Calls Tryz.prog 48 #[mP mb, S [99, 99, 119], thV t] w fun e w' => e = .returned (rV (s + 13)) ∧ MkEnd w w' mb (L ++ volL s t.a t.b t.c) (s + 14) i := by
  have r2 := hroom.2
  have E0 : MkEnd w (w.alloc (thB t)) mb L s i := MkEnd.al (show MkEnd w w mb L s i from ⟨Kp.refl mb w, hM⟩) _
  have f_t := AtH.new w t
  obtain ⟨c0, c1, c2, c3, c4, c5, c6, c7, c8, c9, c10, c11⟩ := f_t.cs
  have HH : Hid _ := And.intro E0 f_t
  clear E0 f_t hM
  go_enter Tryz.func48, Tryz.ntmps48
  go_wp2_with fail
  generalize w.alloc (.cells #[rV t.a.x, rV t.a.y, rV t.a.w, rV t.b.x, rV t.b.y, rV t.b.w, rV t.c.x, rV t.c.y, rV t.c.w, rV t.d.x, rV t.d.y, rV t.d.w] 86) = w0 at *
  clear c0 c1 c2 c3 c4 c5 c6 c7 c8 c9 c10 c11
  obtain ⟨E0, f_t⟩ := HH.out
  clear HH
  refine (mvol_any mb _ s i t.a t.b t.c w0 E0.2 (hroom.mono (by omega)) h8.a h8.b h8.c).mono ?_
  rintro e w1 ⟨rfl, k1⟩
  have HE : Hid _ := MkEnd.trans E0 k1
  clear k1 E0 f_t
  go_wp2_with fail
  go_ret
  exact ⟨rfl, HE.out⟩

set_option maxHeartbeats 800000 in
theorem mask_btw (mb : Nat) (L : List Stp) (s i : Nat) (t : Th) (w : World) (hM : Mkr w mb L s i) (hroom : Room L s 38) (h8 : S12 t) :
    Calls Tryz.prog 48 #[mP mb, S [98, 116, 119], thV t] w fun e w' => e = .returned (rV (s + 37)) ∧ MkEnd w w' mb (L ++ btwL s t.a t.b t.c) (s + 38) i := by
  have r2 := hroom.2
  have E0 : MkEnd w (w.alloc (thB t)) mb L s i := MkEnd.al (show MkEnd w w mb L s i from ⟨Kp.refl mb w, hM⟩) _
  have f_t := AtH.new w t
  obtain ⟨c0, c1, c2, c3, c4, c5, c6, c7, c8, c9, c10, c11⟩ := f_t.cs
  have HH : Hid _ := And.intro E0 f_t
  clear E0 f_t hM
  go_enter Tryz.func48, Tryz.ntmps48
  go_wp2_with fail
  generalize w.alloc (.cells #[rV t.a.x, rV t.a.y, rV t.a.w, rV t.b.x, rV t.b.y, rV t.b.w, rV t.c.x, rV t.c.y, rV t.c.w, rV t.d.x, rV t.d.y, rV t.d.w] 86) = w0 at *
  clear c0 c1 c2 c3 c4 c5 c6 c7 c8 c9 c10 c11
  obtain ⟨E0, f_t⟩ := HH.out
  clear HH
  refine (mbtw_any mb _ s i t.a t.b t.c w0 E0.2 (hroom.mono (by omega)) h8.a h8.b h8.c).mono ?_
  rintro e w1 ⟨rfl, k1⟩
  have HE : Hid _ := MkEnd.trans E0 k1
  clear k1 E0 f_t
  go_wp2_with fail
  go_ret
  exact ⟨rfl, HE.out⟩

set_option maxHeartbeats 800000 in
theorem mask_w (wd : List UInt8) (K : List Stp) (n r : Nat) (mb : Nat) (L : List Stp) (s i : Nat) (t : Th) (w : World) (hM : Mkr w mb L s i) (hroom : Room L s (n + 4)) (h1 : (wd == [99, 99, 119]) = false) (h2 : (wd == [98, 116, 119]) = false) (hr : r < n) (hn : K.length ≤ n) (hf : ∀ W, Mkr W mb L s i → Calls Tryz.prog 81 #[mP mb, S wd, thV t] W fun e w' => e = .returned (rV (s + r)) ∧ MkEnd W w' mb (L ++ K) (s + n) i) :
    Calls Tryz.prog 48 #[mP mb, S wd, thV t] w fun e w' => e = .returned (rV (s + n + 3)) ∧ MkEnd w w' mb (L ++ (K ++ isnL (s + n) (s + r))) (s + n + 4) i := by
  have r2 := hroom.2
  have E0 : MkEnd w (w.alloc (thB t)) mb L s i := MkEnd.al (show MkEnd w w mb L s i from ⟨Kp.refl mb w, hM⟩) _
  have f_t := AtH.new w t
  obtain ⟨c0, c1, c2, c3, c4, c5, c6, c7, c8, c9, c10, c11⟩ := f_t.cs
  have HH : Hid _ := And.intro E0 f_t
  clear E0 f_t hM
  go_enter Tryz.func48, Tryz.ntmps48
  go_wp2_with fail
  generalize w.alloc (.cells #[rV t.a.x, rV t.a.y, rV t.a.w, rV t.b.x, rV t.b.y, rV t.b.w, rV t.c.x, rV t.c.y, rV t.c.w, rV t.d.x, rV t.d.y, rV t.d.w] 86) = w0 at *
  clear c0 c1 c2 c3 c4 c5 c6 c7 c8 c9 c10 c11
  obtain ⟨E0, f_t⟩ := HH.out
  clear HH
  refine (hf _ E0.2).mono ?_
  rintro e w1 ⟨rfl, k1⟩
  have E1 := MkEnd.trans E0 k1
  have R1 : Room (L ++ K) (s + n) 4 := Room.app n (k := 4) hroom hn
  have HH : Hid _ := E1
  clear k1 E0 E1 f_t hroom
  go_wp2_with fail
  have E1 := HH.out
  clear HH
  refine (misn_any mb _ (s + n) i (s + r) w1 E1.2 R1 (by omega)).mono ?_
  rintro e w2 ⟨rfl, k2⟩
  have HE : Hid _ := MkEnd.trans E1 k2
  clear k2 E1
  go_wp2_with fail
  go_ret
  have hL : (L ++ K) ++ isnL (s + n) (s + r) = L ++ (K ++ isnL (s + n) (s + r)) := List.append_assoc _ _ _
  exact ⟨rfl, by rw [← hL]; exact HE.out⟩

theorem mask_same (mb : Nat) (L : List Stp) (s i : Nat) (t : Th) (w : World) (hM : Mkr w mb L s i) (hroom : Room L s 14) (h8 : S12 t) : Calls Tryz.prog 48 #[mP mb, S [115, 97, 109, 101], thV t] w fun e w' => e = .returned (rV (s + 13)) ∧ MkEnd w w' mb (L ++ (samL s t.a t.b ++ isnL (s + 10) (s + 9))) (s + 14) i := mask_w _ _ 10 9 mb L s i t w hM hroom rfl rfl (by decide) (Nat.le_of_eq rfl) (fun W h => mgap_same mb L s i t W h (hroom.mono (by omega)) h8)

theorem mask_con (mb : Nat) (L : List Stp) (s i : Nat) (t : Th) (w : World) (hM : Mkr w mb L s i) (hroom : Room L s 54) (h8 : S12 t) : Calls Tryz.prog 48 #[mP mb, S [99, 111, 110], thV t] w fun e w' => e = .returned (rV (s + 53)) ∧ MkEnd w w' mb (L ++ (rndL s t.a t.b t.c t.d ++ isnL (s + 50) (s + 49))) (s + 54) i := mask_w _ _ 50 49 mb L s i t w hM hroom rfl rfl (by decide) (Nat.le_of_eq rfl) (fun W h => mgap_con mb L s i t W h (hroom.mono (by omega)) h8)

theorem mask_on (mb : Nat) (L : List Stp) (s i : Nat) (t : Th) (w : World) (hM : Mkr w mb L s i) (hroom : Room L s 9) (h8 : S12 t) : Calls Tryz.prog 48 #[mP mb, S [111, 110], thV t] w fun e w' => e = .returned (rV (s + 8)) ∧ MkEnd w w' mb (L ++ (dotL s t.a t.b ++ isnL (s + 5) (s + 4))) (s + 9) i := mask_w _ _ 5 4 mb L s i t w hM hroom rfl rfl (by decide) (Nat.le_of_eq rfl) (fun W h => mgap_on mb L s i t W h (hroom.mono (by omega)) h8)

theorem mask_pll (mb : Nat) (L : List Stp) (s i : Nat) (t : Th) (w : World) (hM : Mkr w mb L s i) (hroom : Room L s 7) (h8 : S12 t) : Calls Tryz.prog 48 #[mP mb, S [112, 108, 108], thV t] w fun e w' => e = .returned (rV (s + 6)) ∧ MkEnd w w' mb (L ++ (prodD s t.a.x t.b.y t.a.y t.b.x ++ isnL (s + 3) (s + 2))) (s + 7) i := mask_w _ _ 3 2 mb L s i t w hM hroom rfl rfl (by decide) (Nat.le_of_eq rfl) (fun W h => mgap_pll mb L s i t W h (hroom.mono (by omega)) h8)

theorem mask_prp (mb : Nat) (L : List Stp) (s i : Nat) (t : Th) (w : World) (hM : Mkr w mb L s i) (hroom : Room L s 7) (h8 : S12 t) : Calls Tryz.prog 48 #[mP mb, S [112, 114, 112], thV t] w fun e w' => e = .returned (rV (s + 6)) ∧ MkEnd w w' mb (L ++ (prodS s t.a.x t.b.x t.a.y t.b.y ++ isnL (s + 3) (s + 2))) (s + 7) i := mask_w _ _ 3 2 mb L s i t w hM hroom rfl rfl (by decide) (Nat.le_of_eq rfl) (fun W h => mgap_prp mb L s i t W h (hroom.mono (by omega)) h8)

theorem mask_col (mb : Nat) (L : List Stp) (s i : Nat) (t : Th) (w : World) (hM : Mkr w mb L s i) (hroom : Room L s 18) (h8 : S12 t) : Calls Tryz.prog 48 #[mP mb, S [99, 111, 108], thV t] w fun e w' => e = .returned (rV (s + 17)) ∧ MkEnd w w' mb (L ++ (volL s t.a t.b t.c ++ isnL (s + 14) (s + 13))) (s + 18) i := mask_w _ _ 14 13 mb L s i t w hM hroom rfl rfl (by decide) (Nat.le_of_eq rfl) (fun W h => mgap_col mb L s i t W h (hroom.mono (by omega)) h8)

theorem mask_cc (mb : Nat) (L : List Stp) (s i : Nat) (t : Th) (w : World) (hM : Mkr w mb L s i) (hroom : Room L s 18) (h8 : S12 t) : Calls Tryz.prog 48 #[mP mb, S [99, 99], thV t] w fun e w' => e = .returned (rV (s + 17)) ∧ MkEnd w w' mb (L ++ (volL s t.a t.b t.c ++ isnL (s + 14) (s + 13))) (s + 18) i := mask_w _ _ 14 13 mb L s i t w hM hroom rfl rfl (by decide) (Nat.le_of_eq rfl) (fun W h => mgap_cc mb L s i t W h (hroom.mono (by omega)) h8)

end Go.Proofs.YtmnfndpbblpjiabGreatDoor

/- The tables of words, on both sides. -/
namespace Go.Proofs.YtmnfndpbblpjiabGreatDoor
open Go.RowKit Pu

set_option maxHeartbeats 1000000 in
theorem sortGiven_any (s : ByteArray) (w : World) : Calls Tryz.prog 122 #[.string s] w fun e w' => e = .returned (.int .u8 (sG s.toList)) ∧ w = w' := by
  go_enter Tryz.func122, Tryz.ntmps122
  go_wp2
  all_goals go_ret
  all_goals refine ⟨?_, rfl⟩
  all_goals simp_all [sG]

set_option maxHeartbeats 1000000 in
theorem weightGiven_any (s : ByteArray) (sum last : Nat) (w : World) (h1 : sum ≤ 1000) (h2 : last ≤ 1000) : Calls Tryz.prog 123 #[.string s, .int .i64 sum, .int .i64 last] w fun e w' => e = .returned (.int .i64 (wG s.toList sum last)) ∧ w = w' := by
  go_enter Tryz.func123, Tryz.ntmps123
  go_wp2
  all_goals go_ret
  all_goals refine ⟨?_, rfl⟩
  all_goals simp_all [wG]

set_option maxHeartbeats 2000000 in
theorem questionTakes_any (s : ByteArray) (w : World) : Calls Tryz.prog 120 #[.string s] w fun e w' => e = .returned (.tuple #[S (qT s.toList).1, .bool (qT s.toList).2]) ∧ w = w' := by
  go_enter Tryz.func120, Tryz.ntmps120
  go_wp2
  all_goals go_ret2
  all_goals refine ⟨?_, rfl⟩
  all_goals simp_all [qT]

set_option maxHeartbeats 2000000 in
theorem constructionTakes_any (s : ByteArray) (w : World) : Calls Tryz.prog 121 #[.string s] w fun e w' => e = .returned (.tuple #[S (cT s.toList).1, .bool (cT s.toList).2]) ∧ w = w' := by
  go_enter Tryz.func121, Tryz.ntmps121
  go_wp2
  all_goals go_ret2
  all_goals refine ⟨?_, rfl⟩
  all_goals simp_all [cT]

set_option maxHeartbeats 4000000 in
set_option maxRecDepth 100000 in
theorem form_any (s : ByteArray) (w : World) : Calls Tryz.prog 148 #[.string s] w fun e w' => e = .returned (.tuple #[S (fm s.toList).1, .int .u8 (fm s.toList).2]) ∧ w = w' := by
  go_enter Tryz.func148, Tryz.ntmps148
  go_wp2
  all_goals go_ret2
  all_goals refine ⟨?_, rfl⟩
  all_goals simp_all [fm]
end Go.Proofs.YtmnfndpbblpjiabGreatDoor

/- The maker's constructions, word by word. -/
namespace Go.Proofs.YtmnfndpbblpjiabGreatDoor
open Go.RowKit Pu
theorem MkEnd.md {a b c : World} {mb s i : Nat} {L : List Stp} (h : MkEnd a b mb L s i) (hm : Mod (fun _ => False) b c) : MkEnd a c mb L s i := ⟨Kp.trans h.1 (Kp.of hm), h.2.mod hm⟩

set_option maxHeartbeats 800000 in
theorem mcon_pt (mb : Nat) (L : List Stp) (s i : Nat) (t : Th) (w : World) (hM : Mkr w mb L s i) (hroom : Room L s 3) (_h8 : S12 t) (hin : i < 100) :
    Calls Tryz.prog 50 #[mP mb, S [112, 116], thV t] w fun e w' => e = .returned (trV (givenR s)) ∧ MkEnd w w' mb (L ++ givenL s i) (s + 3) (i + 2) := by
  have r2 := hroom.2
  have E0 : MkEnd w ((w.alloc (thB t)).alloc trZ) mb L s i := MkEnd.al (MkEnd.al (show MkEnd w w mb L s i from ⟨Kp.refl mb w, hM⟩) _) _
  have f_t : AtH ((w.alloc (thB t)).alloc trZ) w.heap.size t := (AtH.new w t).al _
  have f_R : At3 ((w.alloc (thB t)).alloc trZ) (w.heap.size + 1) (.int .u8 0) (.int .u8 0) (.int .u8 0) := by
    have h := heap_alloc_new (w.alloc (thB t)) trZ
    simp only [sz_al] at h
    exact h
  have hsz : w.heap.size + 1 < ((w.alloc (thB t)).alloc trZ).heap.size := by simp only [sz_al]; omega
  obtain ⟨c0, c1, c2, c3, c4, c5, c6, c7, c8, c9, c10, c11⟩ := f_t.cs
  have HH : Hid _ := And.intro E0 (And.intro hsz f_R)
  clear E0 f_t f_R hM hsz
  go_enter Tryz.func50, Tryz.ntmps50
  go_wp2_with fail
  generalize (w.alloc (.cells #[rV t.a.x, rV t.a.y, rV t.a.w, rV t.b.x, rV t.b.y, rV t.b.w, rV t.c.x, rV t.c.y, rV t.c.w, rV t.d.x, rV t.d.y, rV t.d.w] 86)).alloc (.cells #[.int .u8 0, .int .u8 0, .int .u8 0] 84) = w0 at *
  clear c0 c1 c2 c3 c4 c5 c6 c7 c8 c9 c10 c11
  obtain ⟨E0, hsz, f_R⟩ := HH.out
  clear HH
  refine (mgiv_any mb _ s i w0 E0.2 (hroom.mono (by omega)) hin).mono ?_
  rintro e w1 ⟨rfl, k1⟩
  have E1 := MkEnd.trans E0 k1
  replace f_R := At3.kp f_R k1.1
  replace hsz := Nat.lt_of_lt_of_le hsz k1.1.size
  have z0 := fz3 f_R 0
  have z1 := fz3 f_R 1
  have z2 := fz3 f_R 2
  obtain ⟨y0, y1, y2⟩ := cells3 f_R
  have HC : Hid _ := cells3 (set3_at (x' := rV (givenR s).x) (y' := rV (givenR s).y) (z' := rV (givenR s).w) f_R)
  have HE : Hid _ := MkEnd.st (x' := rV (givenR s).x) (y' := rV (givenR s).y) (z' := rV (givenR s).w) E1 f_R (by omega)
  clear k1 E0 E1 f_R hroom
  go_wp2_with fail
  obtain ⟨g0, g1, g2⟩ := HC.out
  unfold set3 at g0 g1 g2
  exact bodyPost_ret (v := trV (givenR s)) (by simp [results, Tryz.results50, go_sem, g0, g1, g2]) rfl ⟨rfl, HE.out⟩

set_option maxHeartbeats 800000 in
theorem mcon_mid (mb : Nat) (L : List Stp) (s i : Nat) (t : Th) (w : World) (hM : Mkr w mb L s i) (hroom : Room L s 8) (h8 : S12 t) :
    Calls Tryz.prog 50 #[mP mb, S [109, 105, 100], thV t] w fun e w' => e = .returned (trV (midR s)) ∧ MkEnd w w' mb (L ++ midL s t.a t.b) (s + 8) (i) := by
  have r2 := hroom.2
  have E0 : MkEnd w ((w.alloc (thB t)).alloc trZ) mb L s i := MkEnd.al (MkEnd.al (show MkEnd w w mb L s i from ⟨Kp.refl mb w, hM⟩) _) _
  have f_t : AtH ((w.alloc (thB t)).alloc trZ) w.heap.size t := (AtH.new w t).al _
  have f_R : At3 ((w.alloc (thB t)).alloc trZ) (w.heap.size + 1) (.int .u8 0) (.int .u8 0) (.int .u8 0) := by
    have h := heap_alloc_new (w.alloc (thB t)) trZ
    simp only [sz_al] at h
    exact h
  have hsz : w.heap.size + 1 < ((w.alloc (thB t)).alloc trZ).heap.size := by simp only [sz_al]; omega
  obtain ⟨c0, c1, c2, c3, c4, c5, c6, c7, c8, c9, c10, c11⟩ := f_t.cs
  have HH : Hid _ := And.intro E0 (And.intro hsz f_R)
  clear E0 f_t f_R hM hsz
  go_enter Tryz.func50, Tryz.ntmps50
  go_wp2_with fail
  generalize (w.alloc (.cells #[rV t.a.x, rV t.a.y, rV t.a.w, rV t.b.x, rV t.b.y, rV t.b.w, rV t.c.x, rV t.c.y, rV t.c.w, rV t.d.x, rV t.d.y, rV t.d.w] 86)).alloc (.cells #[.int .u8 0, .int .u8 0, .int .u8 0] 84) = w0 at *
  clear c0 c1 c2 c3 c4 c5 c6 c7 c8 c9 c10 c11
  obtain ⟨E0, hsz, f_R⟩ := HH.out
  clear HH
  refine (mmid_any mb _ s i t.a t.b w0 E0.2 (hroom.mono (by omega)) h8.a h8.b).mono ?_
  rintro e w1 ⟨rfl, k1⟩
  have E1 := MkEnd.trans E0 k1
  replace f_R := At3.kp f_R k1.1
  replace hsz := Nat.lt_of_lt_of_le hsz k1.1.size
  have z0 := fz3 f_R 0
  have z1 := fz3 f_R 1
  have z2 := fz3 f_R 2
  obtain ⟨y0, y1, y2⟩ := cells3 f_R
  have HC : Hid _ := cells3 (set3_at (x' := rV (midR s).x) (y' := rV (midR s).y) (z' := rV (midR s).w) f_R)
  have HE : Hid _ := MkEnd.st (x' := rV (midR s).x) (y' := rV (midR s).y) (z' := rV (midR s).w) E1 f_R (by omega)
  clear k1 E0 E1 f_R hroom
  go_wp2_with fail
  obtain ⟨g0, g1, g2⟩ := HC.out
  unfold set3 at g0 g1 g2
  exact bodyPost_ret (v := trV (midR s)) (by simp [results, Tryz.results50, go_sem, g0, g1, g2]) rfl ⟨rfl, HE.out⟩

set_option maxHeartbeats 800000 in
theorem mcon_par (mb : Nat) (L : List Stp) (s i : Nat) (t : Th) (w : World) (hM : Mkr w mb L s i) (hroom : Room L s 7) (h8 : S12 t) :
    Calls Tryz.prog 50 #[mP mb, S [112, 97, 114], thV t] w fun e w' => e = .returned (trV (parR s)) ∧ MkEnd w w' mb (L ++ parL s t.a t.b) (s + 7) (i) := by
  have r2 := hroom.2
  have E0 : MkEnd w ((w.alloc (thB t)).alloc trZ) mb L s i := MkEnd.al (MkEnd.al (show MkEnd w w mb L s i from ⟨Kp.refl mb w, hM⟩) _) _
  have f_t : AtH ((w.alloc (thB t)).alloc trZ) w.heap.size t := (AtH.new w t).al _
  have f_R : At3 ((w.alloc (thB t)).alloc trZ) (w.heap.size + 1) (.int .u8 0) (.int .u8 0) (.int .u8 0) := by
    have h := heap_alloc_new (w.alloc (thB t)) trZ
    simp only [sz_al] at h
    exact h
  have hsz : w.heap.size + 1 < ((w.alloc (thB t)).alloc trZ).heap.size := by simp only [sz_al]; omega
  obtain ⟨c0, c1, c2, c3, c4, c5, c6, c7, c8, c9, c10, c11⟩ := f_t.cs
  have HH : Hid _ := And.intro E0 (And.intro hsz f_R)
  clear E0 f_t f_R hM hsz
  go_enter Tryz.func50, Tryz.ntmps50
  go_wp2_with fail
  generalize (w.alloc (.cells #[rV t.a.x, rV t.a.y, rV t.a.w, rV t.b.x, rV t.b.y, rV t.b.w, rV t.c.x, rV t.c.y, rV t.c.w, rV t.d.x, rV t.d.y, rV t.d.w] 86)).alloc (.cells #[.int .u8 0, .int .u8 0, .int .u8 0] 84) = w0 at *
  clear c0 c1 c2 c3 c4 c5 c6 c7 c8 c9 c10 c11
  obtain ⟨E0, hsz, f_R⟩ := HH.out
  clear HH
  refine (mpar_any mb _ s i t.a t.b w0 E0.2 (hroom.mono (by omega)) h8.a h8.b).mono ?_
  rintro e w1 ⟨rfl, k1⟩
  have E1 := MkEnd.trans E0 k1
  replace f_R := At3.kp f_R k1.1
  replace hsz := Nat.lt_of_lt_of_le hsz k1.1.size
  have z0 := fz3 f_R 0
  have z1 := fz3 f_R 1
  have z2 := fz3 f_R 2
  obtain ⟨y0, y1, y2⟩ := cells3 f_R
  have HC : Hid _ := cells3 (set3_at (x' := rV (parR s).x) (y' := rV (parR s).y) (z' := rV (parR s).w) f_R)
  have HE : Hid _ := MkEnd.st (x' := rV (parR s).x) (y' := rV (parR s).y) (z' := rV (parR s).w) E1 f_R (by omega)
  clear k1 E0 E1 f_R hroom
  go_wp2_with fail
  obtain ⟨g0, g1, g2⟩ := HC.out
  unfold set3 at g0 g1 g2
  exact bodyPost_ret (v := trV (parR s)) (by simp [results, Tryz.results50, go_sem, g0, g1, g2]) rfl ⟨rfl, HE.out⟩

set_option maxHeartbeats 800000 in
theorem mcon_perp (mb : Nat) (L : List Stp) (s i : Nat) (t : Th) (w : World) (hM : Mkr w mb L s i) (hroom : Room L s 9) (h8 : S12 t) :
    Calls Tryz.prog 50 #[mP mb, S [112, 101, 114, 112], thV t] w fun e w' => e = .returned (trV (uprR s)) ∧ MkEnd w w' mb (L ++ uprL s t.a t.b) (s + 9) (i) := by
  have r2 := hroom.2
  have E0 : MkEnd w ((w.alloc (thB t)).alloc trZ) mb L s i := MkEnd.al (MkEnd.al (show MkEnd w w mb L s i from ⟨Kp.refl mb w, hM⟩) _) _
  have f_t : AtH ((w.alloc (thB t)).alloc trZ) w.heap.size t := (AtH.new w t).al _
  have f_R : At3 ((w.alloc (thB t)).alloc trZ) (w.heap.size + 1) (.int .u8 0) (.int .u8 0) (.int .u8 0) := by
    have h := heap_alloc_new (w.alloc (thB t)) trZ
    simp only [sz_al] at h
    exact h
  have hsz : w.heap.size + 1 < ((w.alloc (thB t)).alloc trZ).heap.size := by simp only [sz_al]; omega
  obtain ⟨c0, c1, c2, c3, c4, c5, c6, c7, c8, c9, c10, c11⟩ := f_t.cs
  have HH : Hid _ := And.intro E0 (And.intro hsz f_R)
  clear E0 f_t f_R hM hsz
  go_enter Tryz.func50, Tryz.ntmps50
  go_wp2_with fail
  generalize (w.alloc (.cells #[rV t.a.x, rV t.a.y, rV t.a.w, rV t.b.x, rV t.b.y, rV t.b.w, rV t.c.x, rV t.c.y, rV t.c.w, rV t.d.x, rV t.d.y, rV t.d.w] 86)).alloc (.cells #[.int .u8 0, .int .u8 0, .int .u8 0] 84) = w0 at *
  clear c0 c1 c2 c3 c4 c5 c6 c7 c8 c9 c10 c11
  obtain ⟨E0, hsz, f_R⟩ := HH.out
  clear HH
  refine (mupr_any mb _ s i t.a t.b w0 E0.2 (hroom.mono (by omega)) h8.a h8.b).mono ?_
  rintro e w1 ⟨rfl, k1⟩
  have E1 := MkEnd.trans E0 k1
  replace f_R := At3.kp f_R k1.1
  replace hsz := Nat.lt_of_lt_of_le hsz k1.1.size
  have z0 := fz3 f_R 0
  have z1 := fz3 f_R 1
  have z2 := fz3 f_R 2
  obtain ⟨y0, y1, y2⟩ := cells3 f_R
  have HC : Hid _ := cells3 (set3_at (x' := rV (uprR s).x) (y' := rV (uprR s).y) (z' := rV (uprR s).w) f_R)
  have HE : Hid _ := MkEnd.st (x' := rV (uprR s).x) (y' := rV (uprR s).y) (z' := rV (uprR s).w) E1 f_R (by omega)
  clear k1 E0 E1 f_R hroom
  go_wp2_with fail
  obtain ⟨g0, g1, g2⟩ := HC.out
  unfold set3 at g0 g1 g2
  exact bodyPost_ret (v := trV (uprR s)) (by simp [results, Tryz.results50, go_sem, g0, g1, g2]) rfl ⟨rfl, HE.out⟩

set_option maxHeartbeats 800000 in
theorem mcon_foot (mb : Nat) (L : List Stp) (s i : Nat) (t : Th) (w : World) (hM : Mkr w mb L s i) (hroom : Room L s 18) (h8 : S12 t) :
    Calls Tryz.prog 50 #[mP mb, S [102, 111, 111, 116], thV t] w fun e w' => e = .returned (trV (footR s)) ∧ MkEnd w w' mb (L ++ footL s t.a t.b) (s + 18) (i) := by
  have r2 := hroom.2
  have E0 : MkEnd w ((w.alloc (thB t)).alloc trZ) mb L s i := MkEnd.al (MkEnd.al (show MkEnd w w mb L s i from ⟨Kp.refl mb w, hM⟩) _) _
  have f_t : AtH ((w.alloc (thB t)).alloc trZ) w.heap.size t := (AtH.new w t).al _
  have f_R : At3 ((w.alloc (thB t)).alloc trZ) (w.heap.size + 1) (.int .u8 0) (.int .u8 0) (.int .u8 0) := by
    have h := heap_alloc_new (w.alloc (thB t)) trZ
    simp only [sz_al] at h
    exact h
  have hsz : w.heap.size + 1 < ((w.alloc (thB t)).alloc trZ).heap.size := by simp only [sz_al]; omega
  obtain ⟨c0, c1, c2, c3, c4, c5, c6, c7, c8, c9, c10, c11⟩ := f_t.cs
  have HH : Hid _ := And.intro E0 (And.intro hsz f_R)
  clear E0 f_t f_R hM hsz
  go_enter Tryz.func50, Tryz.ntmps50
  go_wp2_with fail
  generalize (w.alloc (.cells #[rV t.a.x, rV t.a.y, rV t.a.w, rV t.b.x, rV t.b.y, rV t.b.w, rV t.c.x, rV t.c.y, rV t.c.w, rV t.d.x, rV t.d.y, rV t.d.w] 86)).alloc (.cells #[.int .u8 0, .int .u8 0, .int .u8 0] 84) = w0 at *
  clear c0 c1 c2 c3 c4 c5 c6 c7 c8 c9 c10 c11
  obtain ⟨E0, hsz, f_R⟩ := HH.out
  clear HH
  refine (mfoot_any mb _ s i t.a t.b w0 E0.2 (hroom.mono (by omega)) h8.a h8.b).mono ?_
  rintro e w1 ⟨rfl, k1⟩
  have E1 := MkEnd.trans E0 k1
  replace f_R := At3.kp f_R k1.1
  replace hsz := Nat.lt_of_lt_of_le hsz k1.1.size
  have z0 := fz3 f_R 0
  have z1 := fz3 f_R 1
  have z2 := fz3 f_R 2
  obtain ⟨y0, y1, y2⟩ := cells3 f_R
  have HC : Hid _ := cells3 (set3_at (x' := rV (footR s).x) (y' := rV (footR s).y) (z' := rV (footR s).w) f_R)
  have HE : Hid _ := MkEnd.st (x' := rV (footR s).x) (y' := rV (footR s).y) (z' := rV (footR s).w) E1 f_R (by omega)
  clear k1 E0 E1 f_R hroom
  go_wp2_with fail
  obtain ⟨g0, g1, g2⟩ := HC.out
  unfold set3 at g0 g1 g2
  exact bodyPost_ret (v := trV (footR s)) (by simp [results, Tryz.results50, go_sem, g0, g1, g2]) rfl ⟨rfl, HE.out⟩

set_option maxHeartbeats 800000 in
theorem mcon_mirror (mb : Nat) (L : List Stp) (s i : Nat) (t : Th) (w : World) (hM : Mkr w mb L s i) (hroom : Room L s 27) (h8 : S12 t) :
    Calls Tryz.prog 50 #[mP mb, S [109, 105, 114, 114, 111, 114], thV t] w fun e w' => e = .returned (trV (mirR s)) ∧ MkEnd w w' mb (L ++ mirL s t.a t.b) (s + 27) (i) := by
  have r2 := hroom.2
  have E0 : MkEnd w ((w.alloc (thB t)).alloc trZ) mb L s i := MkEnd.al (MkEnd.al (show MkEnd w w mb L s i from ⟨Kp.refl mb w, hM⟩) _) _
  have f_t : AtH ((w.alloc (thB t)).alloc trZ) w.heap.size t := (AtH.new w t).al _
  have f_R : At3 ((w.alloc (thB t)).alloc trZ) (w.heap.size + 1) (.int .u8 0) (.int .u8 0) (.int .u8 0) := by
    have h := heap_alloc_new (w.alloc (thB t)) trZ
    simp only [sz_al] at h
    exact h
  have hsz : w.heap.size + 1 < ((w.alloc (thB t)).alloc trZ).heap.size := by simp only [sz_al]; omega
  obtain ⟨c0, c1, c2, c3, c4, c5, c6, c7, c8, c9, c10, c11⟩ := f_t.cs
  have HH : Hid _ := And.intro E0 (And.intro hsz f_R)
  clear E0 f_t f_R hM hsz
  go_enter Tryz.func50, Tryz.ntmps50
  go_wp2_with fail
  generalize (w.alloc (.cells #[rV t.a.x, rV t.a.y, rV t.a.w, rV t.b.x, rV t.b.y, rV t.b.w, rV t.c.x, rV t.c.y, rV t.c.w, rV t.d.x, rV t.d.y, rV t.d.w] 86)).alloc (.cells #[.int .u8 0, .int .u8 0, .int .u8 0] 84) = w0 at *
  clear c0 c1 c2 c3 c4 c5 c6 c7 c8 c9 c10 c11
  obtain ⟨E0, hsz, f_R⟩ := HH.out
  clear HH
  refine (mmir_any mb _ s i t.a t.b w0 E0.2 (hroom.mono (by omega)) h8.a h8.b).mono ?_
  rintro e w1 ⟨rfl, k1⟩
  have E1 := MkEnd.trans E0 k1
  replace f_R := At3.kp f_R k1.1
  replace hsz := Nat.lt_of_lt_of_le hsz k1.1.size
  have z0 := fz3 f_R 0
  have z1 := fz3 f_R 1
  have z2 := fz3 f_R 2
  obtain ⟨y0, y1, y2⟩ := cells3 f_R
  have HC : Hid _ := cells3 (set3_at (x' := rV (mirR s).x) (y' := rV (mirR s).y) (z' := rV (mirR s).w) f_R)
  have HE : Hid _ := MkEnd.st (x' := rV (mirR s).x) (y' := rV (mirR s).y) (z' := rV (mirR s).w) E1 f_R (by omega)
  clear k1 E0 E1 f_R hroom
  go_wp2_with fail
  obtain ⟨g0, g1, g2⟩ := HC.out
  unfold set3 at g0 g1 g2
  exact bodyPost_ret (v := trV (mirR s)) (by simp [results, Tryz.results50, go_sem, g0, g1, g2]) rfl ⟨rfl, HE.out⟩

set_option maxHeartbeats 800000 in
theorem mcon_centre (mb : Nat) (L : List Stp) (s i : Nat) (t : Th) (w : World) (hM : Mkr w mb L s i) (hroom : Room L s 61) (h8 : S12 t) :
    Calls Tryz.prog 50 #[mP mb, S [99, 101, 110, 116, 114, 101], thV t] w fun e w' => e = .returned (trV (cenR s)) ∧ MkEnd w w' mb (L ++ cenL s t.a t.b t.c) (s + 61) (i) := by
  have r2 := hroom.2
  have E0 : MkEnd w ((w.alloc (thB t)).alloc trZ) mb L s i := MkEnd.al (MkEnd.al (show MkEnd w w mb L s i from ⟨Kp.refl mb w, hM⟩) _) _
  have f_t : AtH ((w.alloc (thB t)).alloc trZ) w.heap.size t := (AtH.new w t).al _
  have f_R : At3 ((w.alloc (thB t)).alloc trZ) (w.heap.size + 1) (.int .u8 0) (.int .u8 0) (.int .u8 0) := by
    have h := heap_alloc_new (w.alloc (thB t)) trZ
    simp only [sz_al] at h
    exact h
  have hsz : w.heap.size + 1 < ((w.alloc (thB t)).alloc trZ).heap.size := by simp only [sz_al]; omega
  obtain ⟨c0, c1, c2, c3, c4, c5, c6, c7, c8, c9, c10, c11⟩ := f_t.cs
  have HH : Hid _ := And.intro E0 (And.intro hsz f_R)
  clear E0 f_t f_R hM hsz
  go_enter Tryz.func50, Tryz.ntmps50
  go_wp2_with fail
  generalize (w.alloc (.cells #[rV t.a.x, rV t.a.y, rV t.a.w, rV t.b.x, rV t.b.y, rV t.b.w, rV t.c.x, rV t.c.y, rV t.c.w, rV t.d.x, rV t.d.y, rV t.d.w] 86)).alloc (.cells #[.int .u8 0, .int .u8 0, .int .u8 0] 84) = w0 at *
  clear c0 c1 c2 c3 c4 c5 c6 c7 c8 c9 c10 c11
  obtain ⟨E0, hsz, f_R⟩ := HH.out
  clear HH
  refine (mcen_any mb _ s i t.a t.b t.c w0 E0.2 (hroom.mono (by omega)) h8.a h8.b h8.c).mono ?_
  rintro e w1 ⟨rfl, k1⟩
  have E1 := MkEnd.trans E0 k1
  replace f_R := At3.kp f_R k1.1
  replace hsz := Nat.lt_of_lt_of_le hsz k1.1.size
  have z0 := fz3 f_R 0
  have z1 := fz3 f_R 1
  have z2 := fz3 f_R 2
  obtain ⟨y0, y1, y2⟩ := cells3 f_R
  have HC : Hid _ := cells3 (set3_at (x' := rV (cenR s).x) (y' := rV (cenR s).y) (z' := rV (cenR s).w) f_R)
  have HE : Hid _ := MkEnd.st (x' := rV (cenR s).x) (y' := rV (cenR s).y) (z' := rV (cenR s).w) E1 f_R (by omega)
  clear k1 E0 E1 f_R hroom
  go_wp2_with fail
  obtain ⟨g0, g1, g2⟩ := HC.out
  unfold set3 at g0 g1 g2
  exact bodyPost_ret (v := trV (cenR s)) (by simp [results, Tryz.results50, go_sem, g0, g1, g2]) rfl ⟨rfl, HE.out⟩

set_option maxHeartbeats 800000 in
theorem mcon_line (mb : Nat) (L : List Stp) (s i : Nat) (t : Th) (w : World) (hM : Mkr w mb L s i) (hroom : Room L s 9) (h8 : S12 t) :
    Calls Tryz.prog 50 #[mP mb, S [108, 105, 110, 101], thV t] w fun e w' => e = .returned (trV (crossR s)) ∧ MkEnd w w' mb (L ++ crossL s t.a t.b) (s + 9) (i) := by
  have r2 := hroom.2
  have E0 : MkEnd w ((w.alloc (thB t)).alloc trZ) mb L s i := MkEnd.al (MkEnd.al (show MkEnd w w mb L s i from ⟨Kp.refl mb w, hM⟩) _) _
  have f_t : AtH ((w.alloc (thB t)).alloc trZ) w.heap.size t := (AtH.new w t).al _
  have f_R : At3 ((w.alloc (thB t)).alloc trZ) (w.heap.size + 1) (.int .u8 0) (.int .u8 0) (.int .u8 0) := by
    have h := heap_alloc_new (w.alloc (thB t)) trZ
    simp only [sz_al] at h
    exact h
  have hsz : w.heap.size + 1 < ((w.alloc (thB t)).alloc trZ).heap.size := by simp only [sz_al]; omega
  obtain ⟨c0, c1, c2, c3, c4, c5, c6, c7, c8, c9, c10, c11⟩ := f_t.cs
  have HH : Hid _ := And.intro E0 (And.intro hsz f_R)
  clear E0 f_t f_R hM hsz
  go_enter Tryz.func50, Tryz.ntmps50
  go_wp2_with fail
  generalize (w.alloc (.cells #[rV t.a.x, rV t.a.y, rV t.a.w, rV t.b.x, rV t.b.y, rV t.b.w, rV t.c.x, rV t.c.y, rV t.c.w, rV t.d.x, rV t.d.y, rV t.d.w] 86)).alloc (.cells #[.int .u8 0, .int .u8 0, .int .u8 0] 84) = w0 at *
  clear c0 c1 c2 c3 c4 c5 c6 c7 c8 c9 c10 c11
  obtain ⟨E0, hsz, f_R⟩ := HH.out
  clear HH
  refine (mcross_any mb _ s i t.a t.b w0 E0.2 (hroom.mono (by omega)) h8.a h8.b).mono ?_
  rintro e w1 ⟨rfl, k1⟩
  have E1 := MkEnd.trans E0 k1
  replace f_R := At3.kp f_R k1.1
  replace hsz := Nat.lt_of_lt_of_le hsz k1.1.size
  have z0 := fz3 f_R 0
  have z1 := fz3 f_R 1
  have z2 := fz3 f_R 2
  obtain ⟨y0, y1, y2⟩ := cells3 f_R
  have HC : Hid _ := cells3 (set3_at (x' := rV (crossR s).x) (y' := rV (crossR s).y) (z' := rV (crossR s).w) f_R)
  have HE : Hid _ := MkEnd.st (x' := rV (crossR s).x) (y' := rV (crossR s).y) (z' := rV (crossR s).w) E1 f_R (by omega)
  clear k1 E0 E1 f_R hroom
  go_wp2_with fail
  obtain ⟨g0, g1, g2⟩ := HC.out
  unfold set3 at g0 g1 g2
  exact bodyPost_ret (v := trV (crossR s)) (by simp [results, Tryz.results50, go_sem, g0, g1, g2]) rfl ⟨rfl, HE.out⟩

set_option maxHeartbeats 800000 in
theorem mcon_meet (mb : Nat) (L : List Stp) (s i : Nat) (t : Th) (w : World) (hM : Mkr w mb L s i) (hroom : Room L s 9) (h8 : S12 t) :
    Calls Tryz.prog 50 #[mP mb, S [109, 101, 101, 116], thV t] w fun e w' => e = .returned (trV (crossR s)) ∧ MkEnd w w' mb (L ++ crossL s t.a t.b) (s + 9) (i) := by
  have r2 := hroom.2
  have E0 : MkEnd w ((w.alloc (thB t)).alloc trZ) mb L s i := MkEnd.al (MkEnd.al (show MkEnd w w mb L s i from ⟨Kp.refl mb w, hM⟩) _) _
  have f_t : AtH ((w.alloc (thB t)).alloc trZ) w.heap.size t := (AtH.new w t).al _
  have f_R : At3 ((w.alloc (thB t)).alloc trZ) (w.heap.size + 1) (.int .u8 0) (.int .u8 0) (.int .u8 0) := by
    have h := heap_alloc_new (w.alloc (thB t)) trZ
    simp only [sz_al] at h
    exact h
  have hsz : w.heap.size + 1 < ((w.alloc (thB t)).alloc trZ).heap.size := by simp only [sz_al]; omega
  obtain ⟨c0, c1, c2, c3, c4, c5, c6, c7, c8, c9, c10, c11⟩ := f_t.cs
  have HH : Hid _ := And.intro E0 (And.intro hsz f_R)
  clear E0 f_t f_R hM hsz
  go_enter Tryz.func50, Tryz.ntmps50
  go_wp2_with fail
  generalize (w.alloc (.cells #[rV t.a.x, rV t.a.y, rV t.a.w, rV t.b.x, rV t.b.y, rV t.b.w, rV t.c.x, rV t.c.y, rV t.c.w, rV t.d.x, rV t.d.y, rV t.d.w] 86)).alloc (.cells #[.int .u8 0, .int .u8 0, .int .u8 0] 84) = w0 at *
  clear c0 c1 c2 c3 c4 c5 c6 c7 c8 c9 c10 c11
  obtain ⟨E0, hsz, f_R⟩ := HH.out
  clear HH
  refine (mcross_any mb _ s i t.a t.b w0 E0.2 (hroom.mono (by omega)) h8.a h8.b).mono ?_
  rintro e w1 ⟨rfl, k1⟩
  have E1 := MkEnd.trans E0 k1
  replace f_R := At3.kp f_R k1.1
  replace hsz := Nat.lt_of_lt_of_le hsz k1.1.size
  have z0 := fz3 f_R 0
  have z1 := fz3 f_R 1
  have z2 := fz3 f_R 2
  obtain ⟨y0, y1, y2⟩ := cells3 f_R
  have HC : Hid _ := cells3 (set3_at (x' := rV (crossR s).x) (y' := rV (crossR s).y) (z' := rV (crossR s).w) f_R)
  have HE : Hid _ := MkEnd.st (x' := rV (crossR s).x) (y' := rV (crossR s).y) (z' := rV (crossR s).w) E1 f_R (by omega)
  clear k1 E0 E1 f_R hroom
  go_wp2_with fail
  obtain ⟨g0, g1, g2⟩ := HC.out
  unfold set3 at g0 g1 g2
  exact bodyPost_ret (v := trV (crossR s)) (by simp [results, Tryz.results50, go_sem, g0, g1, g2]) rfl ⟨rfl, HE.out⟩

end Go.Proofs.YtmnfndpbblpjiabGreatDoor
