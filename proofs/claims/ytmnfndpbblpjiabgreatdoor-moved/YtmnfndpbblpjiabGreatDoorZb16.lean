/- The maker's questions, word by word. -/
import Derived.Test.YtmnfndpbblpjiabGreatDoorZb15
import Derived.Test.YtmnfndpbblpjiabGreatDoorZb01
import Derived.Test.YtmnfndpbblpjiabGreatDoorZb05
namespace Go.Proofs.YtmnfndpbblpjiabGreatDoor
open Go.RowKit Pu
abbrev thV (t : Th) : Value := .agg #[rV t.a.x, rV t.a.y, rV t.a.w, rV t.b.x, rV t.b.y, rV t.b.w, rV t.c.x, rV t.c.y, rV t.c.w, rV t.d.x, rV t.d.y, rV t.d.w]
abbrev thB (t : Th) : Obj := .cells #[rV t.a.x, rV t.a.y, rV t.a.w, rV t.b.x, rV t.b.y, rV t.b.w, rV t.c.x, rV t.c.y, rV t.c.w, rV t.d.x, rV t.d.y, rV t.d.w] 86
def AtH (w : World) (k : Nat) (t : Th) : Prop := w.heap[k]? = some (thB t)
theorem AtH.md {w w' : World} {k : Nat} {t : Th} (h : AtH w k t) (hk : Mod (fun _ => False) w w') : AtH w' k t := hk.keep h (fun f => f)
theorem AtH.kp {w w' : World} {mb k : Nat} {t : Th} (h : AtH w k t) (hk : Kp mb w w') : AtH w' k t := hk.keep h (by decide) (by decide)
theorem AtH.al {w : World} {k : Nat} {t : Th} (h : AtH w k t) (o : Obj) : AtH (w.alloc o) k t := h.md ((Mod.refl _ w).alloc o)
theorem AtH.new (w : World) (t : Th) : AtH (w.alloc (thB t)) w.heap.size t := heap_alloc_new w _
/-- Its twelve cells. -/
structure Cs12 (w : World) (k : Nat) (t : Th) : Prop where
  c0 : w.cell? ⟨k, 0, none⟩ = some (rV t.a.x)
  c1 : w.cell? ⟨k, 1, none⟩ = some (rV t.a.y)
  c2 : w.cell? ⟨k, 2, none⟩ = some (rV t.a.w)
  c3 : w.cell? ⟨k, 3, none⟩ = some (rV t.b.x)
  c4 : w.cell? ⟨k, 4, none⟩ = some (rV t.b.y)
  c5 : w.cell? ⟨k, 5, none⟩ = some (rV t.b.w)
  c6 : w.cell? ⟨k, 6, none⟩ = some (rV t.c.x)
  c7 : w.cell? ⟨k, 7, none⟩ = some (rV t.c.y)
  c8 : w.cell? ⟨k, 8, none⟩ = some (rV t.c.w)
  c9 : w.cell? ⟨k, 9, none⟩ = some (rV t.d.x)
  c10 : w.cell? ⟨k, 10, none⟩ = some (rV t.d.y)
  c11 : w.cell? ⟨k, 11, none⟩ = some (rV t.d.w)
theorem AtH.cs {w : World} {k : Nat} {t : Th} (h : AtH w k t) : Cs12 w k t := by
  unfold AtH at h
  constructor <;> simp [World.cell?, h]
/-- Registers are bytes. -/
structure S12 (t : Th) : Prop where
  a : S8 t.a
  b : S8 t.b
  c : S8 t.c
  d : S8 t.d

set_option maxHeartbeats 800000 in
theorem mgap_con (mb : Nat) (L : List Stp) (s i : Nat) (t : Th) (w : World) (hM : Mkr w mb L s i) (hroom : Room L s 50) (h8 : S12 t) :
    Calls Tryz.prog 81 #[mP mb, S [99, 111, 110], thV t] w fun e w' => e = .returned (rV (s + 49)) ∧ MkEnd w w' mb (L ++ rndL s t.a t.b t.c t.d) (s + 50) i := by
  have r2 := hroom.2
  have E0 : MkEnd w (w.alloc (thB t)) mb L s i := MkEnd.al (show MkEnd w w mb L s i from ⟨Kp.refl mb w, hM⟩) _
  have f_t := AtH.new w t
  obtain ⟨c0, c1, c2, c3, c4, c5, c6, c7, c8, c9, c10, c11⟩ := f_t.cs
  have HH : Hid _ := And.intro E0 f_t
  clear E0 f_t hM
  go_enter Tryz.func81, Tryz.ntmps81
  go_wp2_with fail
  generalize w.alloc (.cells #[rV t.a.x, rV t.a.y, rV t.a.w, rV t.b.x, rV t.b.y, rV t.b.w, rV t.c.x, rV t.c.y, rV t.c.w, rV t.d.x, rV t.d.y, rV t.d.w] 86) = w0 at *
  clear c0 c1 c2 c3 c4 c5 c6 c7 c8 c9 c10 c11
  obtain ⟨E0, f_t⟩ := HH.out
  clear HH
  refine (mrnd_any mb _ s i t.a t.b t.c t.d w0 E0.2 (hroom.mono (by omega)) h8.a h8.b h8.c h8.d).mono ?_
  rintro e w1 ⟨rfl, k1⟩
  have HE : Hid _ := MkEnd.trans E0 k1
  clear k1 E0 f_t
  go_wp2_with fail
  go_ret
  exact ⟨rfl, HE.out⟩

set_option maxHeartbeats 800000 in
theorem mgap_on (mb : Nat) (L : List Stp) (s i : Nat) (t : Th) (w : World) (hM : Mkr w mb L s i) (hroom : Room L s 5) (h8 : S12 t) :
    Calls Tryz.prog 81 #[mP mb, S [111, 110], thV t] w fun e w' => e = .returned (rV (s + 4)) ∧ MkEnd w w' mb (L ++ dotL s t.a t.b) (s + 5) i := by
  have r2 := hroom.2
  have E0 : MkEnd w (w.alloc (thB t)) mb L s i := MkEnd.al (show MkEnd w w mb L s i from ⟨Kp.refl mb w, hM⟩) _
  have f_t := AtH.new w t
  obtain ⟨c0, c1, c2, c3, c4, c5, c6, c7, c8, c9, c10, c11⟩ := f_t.cs
  have HH : Hid _ := And.intro E0 f_t
  clear E0 f_t hM
  go_enter Tryz.func81, Tryz.ntmps81
  go_wp2_with fail
  generalize w.alloc (.cells #[rV t.a.x, rV t.a.y, rV t.a.w, rV t.b.x, rV t.b.y, rV t.b.w, rV t.c.x, rV t.c.y, rV t.c.w, rV t.d.x, rV t.d.y, rV t.d.w] 86) = w0 at *
  clear c0 c1 c2 c3 c4 c5 c6 c7 c8 c9 c10 c11
  obtain ⟨E0, f_t⟩ := HH.out
  clear HH
  refine (mdot_any mb _ s i t.a t.b w0 E0.2 (hroom.mono (by omega)) h8.a h8.b).mono ?_
  rintro e w1 ⟨rfl, k1⟩
  have HE : Hid _ := MkEnd.trans E0 k1
  clear k1 E0 f_t
  go_wp2_with fail
  go_ret
  exact ⟨rfl, HE.out⟩

set_option maxHeartbeats 800000 in
theorem mgap_pll (mb : Nat) (L : List Stp) (s i : Nat) (t : Th) (w : World) (hM : Mkr w mb L s i) (hroom : Room L s 3) (h8 : S12 t) :
    Calls Tryz.prog 81 #[mP mb, S [112, 108, 108], thV t] w fun e w' => e = .returned (rV (s + 2)) ∧ MkEnd w w' mb (L ++ prodD s t.a.x t.b.y t.a.y t.b.x) (s + 3) i := by
  have r2 := hroom.2
  have E0 : MkEnd w (w.alloc (thB t)) mb L s i := MkEnd.al (show MkEnd w w mb L s i from ⟨Kp.refl mb w, hM⟩) _
  have f_t := AtH.new w t
  obtain ⟨c0, c1, c2, c3, c4, c5, c6, c7, c8, c9, c10, c11⟩ := f_t.cs
  have HH : Hid _ := And.intro E0 f_t
  clear E0 f_t hM
  go_enter Tryz.func81, Tryz.ntmps81
  go_wp2_with fail
  generalize w.alloc (.cells #[rV t.a.x, rV t.a.y, rV t.a.w, rV t.b.x, rV t.b.y, rV t.b.w, rV t.c.x, rV t.c.y, rV t.c.w, rV t.d.x, rV t.d.y, rV t.d.w] 86) = w0 at *
  clear c0 c1 c2 c3 c4 c5 c6 c7 c8 c9 c10 c11
  obtain ⟨E0, f_t⟩ := HH.out
  clear HH
  refine (mpD_any mb _ s i t.a.x t.b.y t.a.y t.b.x w0 E0.2 (hroom.mono (by omega)) h8.a.1 h8.b.2.1 h8.a.2.1 h8.b.1).mono ?_
  rintro e w1 ⟨rfl, k1⟩
  have HE : Hid _ := MkEnd.trans E0 k1
  clear k1 E0 f_t
  go_wp2_with fail
  go_ret
  exact ⟨rfl, HE.out⟩

set_option maxHeartbeats 800000 in
theorem mgap_prp (mb : Nat) (L : List Stp) (s i : Nat) (t : Th) (w : World) (hM : Mkr w mb L s i) (hroom : Room L s 3) (h8 : S12 t) :
    Calls Tryz.prog 81 #[mP mb, S [112, 114, 112], thV t] w fun e w' => e = .returned (rV (s + 2)) ∧ MkEnd w w' mb (L ++ prodS s t.a.x t.b.x t.a.y t.b.y) (s + 3) i := by
  have r2 := hroom.2
  have E0 : MkEnd w (w.alloc (thB t)) mb L s i := MkEnd.al (show MkEnd w w mb L s i from ⟨Kp.refl mb w, hM⟩) _
  have f_t := AtH.new w t
  obtain ⟨c0, c1, c2, c3, c4, c5, c6, c7, c8, c9, c10, c11⟩ := f_t.cs
  have HH : Hid _ := And.intro E0 f_t
  clear E0 f_t hM
  go_enter Tryz.func81, Tryz.ntmps81
  go_wp2_with fail
  generalize w.alloc (.cells #[rV t.a.x, rV t.a.y, rV t.a.w, rV t.b.x, rV t.b.y, rV t.b.w, rV t.c.x, rV t.c.y, rV t.c.w, rV t.d.x, rV t.d.y, rV t.d.w] 86) = w0 at *
  clear c0 c1 c2 c3 c4 c5 c6 c7 c8 c9 c10 c11
  obtain ⟨E0, f_t⟩ := HH.out
  clear HH
  refine (mpS_any mb _ s i t.a.x t.b.x t.a.y t.b.y w0 E0.2 (hroom.mono (by omega)) h8.a.1 h8.b.1 h8.a.2.1 h8.b.2.1).mono ?_
  rintro e w1 ⟨rfl, k1⟩
  have HE : Hid _ := MkEnd.trans E0 k1
  clear k1 E0 f_t
  go_wp2_with fail
  go_ret
  exact ⟨rfl, HE.out⟩

set_option maxHeartbeats 800000 in
theorem mgap_col (mb : Nat) (L : List Stp) (s i : Nat) (t : Th) (w : World) (hM : Mkr w mb L s i) (hroom : Room L s 14) (h8 : S12 t) :
    Calls Tryz.prog 81 #[mP mb, S [99, 111, 108], thV t] w fun e w' => e = .returned (rV (s + 13)) ∧ MkEnd w w' mb (L ++ volL s t.a t.b t.c) (s + 14) i := by
  have r2 := hroom.2
  have E0 : MkEnd w (w.alloc (thB t)) mb L s i := MkEnd.al (show MkEnd w w mb L s i from ⟨Kp.refl mb w, hM⟩) _
  have f_t := AtH.new w t
  obtain ⟨c0, c1, c2, c3, c4, c5, c6, c7, c8, c9, c10, c11⟩ := f_t.cs
  have HH : Hid _ := And.intro E0 f_t
  clear E0 f_t hM
  go_enter Tryz.func81, Tryz.ntmps81
  go_wp2_with fail
  generalize w.alloc (.cells #[rV t.a.x, rV t.a.y, rV t.a.w, rV t.b.x, rV t.b.y, rV t.b.w, rV t.c.x, rV t.c.y, rV t.c.w, rV t.d.x, rV t.d.y, rV t.d.w] 86) = w0 at *
  clear c0 c1 c2 c3 c4 c5 c6 c7 c8 c9 c10 c11
  obtain ⟨E0, f_t⟩ := HH.out
  clear HH
  refine (mvol_any mb _ s i t.a t.b t.c w0 E0.2 (hroom.mono (by omega)) h8.a h8.b h8.c).mono ?_
  rintro e w1 ⟨rfl, k1⟩
  have HE : Hid _ := MkEnd.trans E0 k1
  clear k1 E0 f_t
  go_wp2_with fail
  go_ret
  exact ⟨rfl, HE.out⟩

set_option maxHeartbeats 800000 in
theorem mgap_cc (mb : Nat) (L : List Stp) (s i : Nat) (t : Th) (w : World) (hM : Mkr w mb L s i) (hroom : Room L s 14) (h8 : S12 t) :
    Calls Tryz.prog 81 #[mP mb, S [99, 99], thV t] w fun e w' => e = .returned (rV (s + 13)) ∧ MkEnd w w' mb (L ++ volL s t.a t.b t.c) (s + 14) i := by
  have r2 := hroom.2
  have E0 : MkEnd w (w.alloc (thB t)) mb L s i := MkEnd.al (show MkEnd w w mb L s i from ⟨Kp.refl mb w, hM⟩) _
  have f_t := AtH.new w t
  obtain ⟨c0, c1, c2, c3, c4, c5, c6, c7, c8, c9, c10, c11⟩ := f_t.cs
  have HH : Hid _ := And.intro E0 f_t
  clear E0 f_t hM
  go_enter Tryz.func81, Tryz.ntmps81
  go_wp2_with fail
  generalize w.alloc (.cells #[rV t.a.x, rV t.a.y, rV t.a.w, rV t.b.x, rV t.b.y, rV t.b.w, rV t.c.x, rV t.c.y, rV t.c.w, rV t.d.x, rV t.d.y, rV t.d.w] 86) = w0 at *
  clear c0 c1 c2 c3 c4 c5 c6 c7 c8 c9 c10 c11
  obtain ⟨E0, f_t⟩ := HH.out
  clear HH
  refine (mvol_any mb _ s i t.a t.b t.c w0 E0.2 (hroom.mono (by omega)) h8.a h8.b h8.c).mono ?_
  rintro e w1 ⟨rfl, k1⟩
  have HE : Hid _ := MkEnd.trans E0 k1
  clear k1 E0 f_t
  go_wp2_with fail
  go_ret
  exact ⟨rfl, HE.out⟩

set_option maxHeartbeats 800000 in
theorem mgap_same (mb : Nat) (L : List Stp) (s i : Nat) (t : Th) (w : World) (hM : Mkr w mb L s i) (hroom : Room L s 10) (h8 : S12 t) :
    Calls Tryz.prog 81 #[mP mb, S [115, 97, 109, 101], thV t] w fun e w' => e = .returned (rV (s + 9)) ∧ MkEnd w w' mb (L ++ samL s t.a t.b) (s + 10) i := by
  have r2 := hroom.2
  have E0 : MkEnd w (w.alloc (thB t)) mb L s i := MkEnd.al (show MkEnd w w mb L s i from ⟨Kp.refl mb w, hM⟩) _
  have f_t := AtH.new w t
  obtain ⟨c0, c1, c2, c3, c4, c5, c6, c7, c8, c9, c10, c11⟩ := f_t.cs
  have HH : Hid _ := And.intro E0 f_t
  clear E0 f_t hM
  go_enter Tryz.func81, Tryz.ntmps81
  go_wp2_with fail
  generalize w.alloc (.cells #[rV t.a.x, rV t.a.y, rV t.a.w, rV t.b.x, rV t.b.y, rV t.b.w, rV t.c.x, rV t.c.y, rV t.c.w, rV t.d.x, rV t.d.y, rV t.d.w] 86) = w0 at *
  clear c0 c1 c2 c3 c4 c5 c6 c7 c8 c9 c10 c11
  obtain ⟨E0, f_t⟩ := HH.out
  clear HH
  refine (mway_any mb _ s i t.a t.b w0 E0.2 (hroom.mono (by omega)) h8.a h8.b).mono ?_
  rintro e w1 ⟨rfl, k1⟩
  have E1 := MkEnd.trans E0 k1
  have R1 : Room (L ++ wayL s t.a t.b) (s + 7) 3 := Room.app 7 (k := 3) hroom (Nat.le_of_eq rfl)
  have f_v : AtT (w1.alloc (.cells #[rV (wayR s).x, rV (wayR s).y, rV (wayR s).w] 84)) w1.heap.size (wayR s) := heap_alloc_new w1 _
  replace E1 := MkEnd.al E1 (.cells #[rV (wayR s).x, rV (wayR s).y, rV (wayR s).w] 84)
  obtain ⟨q0, q1, q2⟩ := cells3 f_v
  have HH : Hid _ := E1
  clear k1 E0 E1 f_t f_v hroom
  go_wp2_with fail
  generalize w1.alloc (.cells #[rV (wayR s).x, rV (wayR s).y, rV (wayR s).w] 84) = w1b at *
  have E1 := HH.out
  clear HH q0 q1 q2
  refine (mpS_any mb _ (s + 7) i (wayR s).x (wayR s).x (wayR s).y (wayR s).y w1b E1.2 R1 (by show s + 2 < 256; omega) (by show s + 2 < 256; omega) (by show s + 5 < 256; omega) (by show s + 5 < 256; omega)).mono ?_
  rintro e w2 ⟨rfl, k2⟩
  have HE : Hid _ := MkEnd.trans E1 k2
  clear k2 E1
  go_wp2_with fail
  go_ret
  have hL : (L ++ wayL s t.a t.b) ++ prodS (s + 7) (wayR s).x (wayR s).x (wayR s).y (wayR s).y = L ++ samL s t.a t.b := by
    simp only [List.append_assoc]
    rfl
  exact ⟨rfl, by rw [← hL]; exact HE.out⟩

set_option maxHeartbeats 800000 in
theorem mask_ccw (mb : Nat) (L : List Stp) (s i : Nat) (t : Th) (w : World) (hM : Mkr w mb L s i) (hroom : Room L s 14) (h8 : S12 t) :
    Calls Tryz.prog 48 #[mP mb, S [99, 99, 119], thV t] w fun e w' => e = .returned (rV (s + 13)) ∧ MkEnd w w' mb (L ++ volL s t.a t.b t.c) (s + 14) i := by
  have r2 := hroom.2
  have E0 : MkEnd w (w.alloc (thB t)) mb L s i := MkEnd.al (show MkEnd w w mb L s i from ⟨Kp.refl mb w, hM⟩) _
  have f_t := AtH.new w t
  obtain ⟨c0, c1, c2, c3, c4, c5, c6, c7, c8, c9, c10, c11⟩ := f_t.cs
  have HH : Hid _ := And.intro E0 f_t
  clear E0 f_t hM
  go_enter Tryz.func48, Tryz.ntmps48
  go_wp2_with fail
  generalize w.alloc (.cells #[rV t.a.x, rV t.a.y, rV t.a.w, rV t.b.x, rV t.b.y, rV t.b.w, rV t.c.x, rV t.c.y, rV t.c.w, rV t.d.x, rV t.d.y, rV t.d.w] 86) = w0 at *
  clear c0 c1 c2 c3 c4 c5 c6 c7 c8 c9 c10 c11
  obtain ⟨E0, f_t⟩ := HH.out
  clear HH
  refine (mvol_any mb _ s i t.a t.b t.c w0 E0.2 (hroom.mono (by omega)) h8.a h8.b h8.c).mono ?_
  rintro e w1 ⟨rfl, k1⟩
  have HE : Hid _ := MkEnd.trans E0 k1
  clear k1 E0 f_t
  go_wp2_with fail
  go_ret
  exact ⟨rfl, HE.out⟩

set_option maxHeartbeats 800000 in
theorem mask_btw (mb : Nat) (L : List Stp) (s i : Nat) (t : Th) (w : World) (hM : Mkr w mb L s i) (hroom : Room L s 38) (h8 : S12 t) :
    Calls Tryz.prog 48 #[mP mb, S [98, 116, 119], thV t] w fun e w' => e = .returned (rV (s + 37)) ∧ MkEnd w w' mb (L ++ btwL s t.a t.b t.c) (s + 38) i := by
  have r2 := hroom.2
  have E0 : MkEnd w (w.alloc (thB t)) mb L s i := MkEnd.al (show MkEnd w w mb L s i from ⟨Kp.refl mb w, hM⟩) _
  have f_t := AtH.new w t
  obtain ⟨c0, c1, c2, c3, c4, c5, c6, c7, c8, c9, c10, c11⟩ := f_t.cs
  have HH : Hid _ := And.intro E0 f_t
  clear E0 f_t hM
  go_enter Tryz.func48, Tryz.ntmps48
  go_wp2_with fail
  generalize w.alloc (.cells #[rV t.a.x, rV t.a.y, rV t.a.w, rV t.b.x, rV t.b.y, rV t.b.w, rV t.c.x, rV t.c.y, rV t.c.w, rV t.d.x, rV t.d.y, rV t.d.w] 86) = w0 at *
  clear c0 c1 c2 c3 c4 c5 c6 c7 c8 c9 c10 c11
  obtain ⟨E0, f_t⟩ := HH.out
  clear HH
  refine (mbtw_any mb _ s i t.a t.b t.c w0 E0.2 (hroom.mono (by omega)) h8.a h8.b h8.c).mono ?_
  rintro e w1 ⟨rfl, k1⟩
  have HE : Hid _ := MkEnd.trans E0 k1
  clear k1 E0 f_t
  go_wp2_with fail
  go_ret
  exact ⟨rfl, HE.out⟩

set_option maxHeartbeats 800000 in
theorem mask_same (mb : Nat) (L : List Stp) (s i : Nat) (t : Th) (w : World) (hM : Mkr w mb L s i) (hroom : Room L s 14) (h8 : S12 t) :
    Calls Tryz.prog 48 #[mP mb, S [115, 97, 109, 101], thV t] w fun e w' => e = .returned (rV (s + 13)) ∧ MkEnd w w' mb (L ++ (samL s t.a t.b ++ isnL (s + 10) (s + 9))) (s + 14) i := by
  have r2 := hroom.2
  have E0 : MkEnd w (w.alloc (thB t)) mb L s i := MkEnd.al (show MkEnd w w mb L s i from ⟨Kp.refl mb w, hM⟩) _
  have f_t := AtH.new w t
  obtain ⟨c0, c1, c2, c3, c4, c5, c6, c7, c8, c9, c10, c11⟩ := f_t.cs
  have HH : Hid _ := And.intro E0 f_t
  clear E0 f_t hM
  go_enter Tryz.func48, Tryz.ntmps48
  go_wp2_with fail
  generalize w.alloc (.cells #[rV t.a.x, rV t.a.y, rV t.a.w, rV t.b.x, rV t.b.y, rV t.b.w, rV t.c.x, rV t.c.y, rV t.c.w, rV t.d.x, rV t.d.y, rV t.d.w] 86) = w0 at *
  clear c0 c1 c2 c3 c4 c5 c6 c7 c8 c9 c10 c11
  obtain ⟨E0, f_t⟩ := HH.out
  clear HH
  refine (mgap_same mb _ s i t w0 E0.2 (hroom.mono (by omega)) h8).mono ?_
  rintro e w1 ⟨rfl, k1⟩
  have E1 := MkEnd.trans E0 k1
  have R1 : Room (L ++ samL s t.a t.b) (s + 10) 4 := Room.app 10 (k := 4) hroom (Nat.le_of_eq rfl)
  have HH : Hid _ := E1
  clear k1 E0 E1 f_t hroom
  go_wp2_with fail
  have E1 := HH.out
  clear HH
  refine (misn_any mb _ (s + 10) i (s + 9) w1 E1.2 R1 (by omega)).mono ?_
  rintro e w2 ⟨rfl, k2⟩
  have HE : Hid _ := MkEnd.trans E1 k2
  clear k2 E1
  go_wp2_with fail
  go_ret
  have hL : (L ++ samL s t.a t.b) ++ isnL (s + 10) (s + 9) = L ++ (samL s t.a t.b ++ isnL (s + 10) (s + 9)) := List.append_assoc _ _ _
  exact ⟨rfl, by rw [← hL]; exact HE.out⟩

set_option maxHeartbeats 800000 in
theorem mask_con (mb : Nat) (L : List Stp) (s i : Nat) (t : Th) (w : World) (hM : Mkr w mb L s i) (hroom : Room L s 54) (h8 : S12 t) :
    Calls Tryz.prog 48 #[mP mb, S [99, 111, 110], thV t] w fun e w' => e = .returned (rV (s + 53)) ∧ MkEnd w w' mb (L ++ (rndL s t.a t.b t.c t.d ++ isnL (s + 50) (s + 49))) (s + 54) i := by
  have r2 := hroom.2
  have E0 : MkEnd w (w.alloc (thB t)) mb L s i := MkEnd.al (show MkEnd w w mb L s i from ⟨Kp.refl mb w, hM⟩) _
  have f_t := AtH.new w t
  obtain ⟨c0, c1, c2, c3, c4, c5, c6, c7, c8, c9, c10, c11⟩ := f_t.cs
  have HH : Hid _ := And.intro E0 f_t
  clear E0 f_t hM
  go_enter Tryz.func48, Tryz.ntmps48
  go_wp2_with fail
  generalize w.alloc (.cells #[rV t.a.x, rV t.a.y, rV t.a.w, rV t.b.x, rV t.b.y, rV t.b.w, rV t.c.x, rV t.c.y, rV t.c.w, rV t.d.x, rV t.d.y, rV t.d.w] 86) = w0 at *
  clear c0 c1 c2 c3 c4 c5 c6 c7 c8 c9 c10 c11
  obtain ⟨E0, f_t⟩ := HH.out
  clear HH
  refine (mgap_con mb _ s i t w0 E0.2 (hroom.mono (by omega)) h8).mono ?_
  rintro e w1 ⟨rfl, k1⟩
  have E1 := MkEnd.trans E0 k1
  have R1 : Room (L ++ rndL s t.a t.b t.c t.d) (s + 50) 4 := Room.app 50 (k := 4) hroom (Nat.le_of_eq rfl)
  have HH : Hid _ := E1
  clear k1 E0 E1 f_t hroom
  go_wp2_with fail
  have E1 := HH.out
  clear HH
  refine (misn_any mb _ (s + 50) i (s + 49) w1 E1.2 R1 (by omega)).mono ?_
  rintro e w2 ⟨rfl, k2⟩
  have HE : Hid _ := MkEnd.trans E1 k2
  clear k2 E1
  go_wp2_with fail
  go_ret
  have hL : (L ++ rndL s t.a t.b t.c t.d) ++ isnL (s + 50) (s + 49) = L ++ (rndL s t.a t.b t.c t.d ++ isnL (s + 50) (s + 49)) := List.append_assoc _ _ _
  exact ⟨rfl, by rw [← hL]; exact HE.out⟩

set_option maxHeartbeats 800000 in
theorem mask_on (mb : Nat) (L : List Stp) (s i : Nat) (t : Th) (w : World) (hM : Mkr w mb L s i) (hroom : Room L s 9) (h8 : S12 t) :
    Calls Tryz.prog 48 #[mP mb, S [111, 110], thV t] w fun e w' => e = .returned (rV (s + 8)) ∧ MkEnd w w' mb (L ++ (dotL s t.a t.b ++ isnL (s + 5) (s + 4))) (s + 9) i := by
  have r2 := hroom.2
  have E0 : MkEnd w (w.alloc (thB t)) mb L s i := MkEnd.al (show MkEnd w w mb L s i from ⟨Kp.refl mb w, hM⟩) _
  have f_t := AtH.new w t
  obtain ⟨c0, c1, c2, c3, c4, c5, c6, c7, c8, c9, c10, c11⟩ := f_t.cs
  have HH : Hid _ := And.intro E0 f_t
  clear E0 f_t hM
  go_enter Tryz.func48, Tryz.ntmps48
  go_wp2_with fail
  generalize w.alloc (.cells #[rV t.a.x, rV t.a.y, rV t.a.w, rV t.b.x, rV t.b.y, rV t.b.w, rV t.c.x, rV t.c.y, rV t.c.w, rV t.d.x, rV t.d.y, rV t.d.w] 86) = w0 at *
  clear c0 c1 c2 c3 c4 c5 c6 c7 c8 c9 c10 c11
  obtain ⟨E0, f_t⟩ := HH.out
  clear HH
  refine (mgap_on mb _ s i t w0 E0.2 (hroom.mono (by omega)) h8).mono ?_
  rintro e w1 ⟨rfl, k1⟩
  have E1 := MkEnd.trans E0 k1
  have R1 : Room (L ++ dotL s t.a t.b) (s + 5) 4 := Room.app 5 (k := 4) hroom (Nat.le_of_eq rfl)
  have HH : Hid _ := E1
  clear k1 E0 E1 f_t hroom
  go_wp2_with fail
  have E1 := HH.out
  clear HH
  refine (misn_any mb _ (s + 5) i (s + 4) w1 E1.2 R1 (by omega)).mono ?_
  rintro e w2 ⟨rfl, k2⟩
  have HE : Hid _ := MkEnd.trans E1 k2
  clear k2 E1
  go_wp2_with fail
  go_ret
  have hL : (L ++ dotL s t.a t.b) ++ isnL (s + 5) (s + 4) = L ++ (dotL s t.a t.b ++ isnL (s + 5) (s + 4)) := List.append_assoc _ _ _
  exact ⟨rfl, by rw [← hL]; exact HE.out⟩

set_option maxHeartbeats 800000 in
theorem mask_pll (mb : Nat) (L : List Stp) (s i : Nat) (t : Th) (w : World) (hM : Mkr w mb L s i) (hroom : Room L s 7) (h8 : S12 t) :
    Calls Tryz.prog 48 #[mP mb, S [112, 108, 108], thV t] w fun e w' => e = .returned (rV (s + 6)) ∧ MkEnd w w' mb (L ++ (prodD s t.a.x t.b.y t.a.y t.b.x ++ isnL (s + 3) (s + 2))) (s + 7) i := by
  have r2 := hroom.2
  have E0 : MkEnd w (w.alloc (thB t)) mb L s i := MkEnd.al (show MkEnd w w mb L s i from ⟨Kp.refl mb w, hM⟩) _
  have f_t := AtH.new w t
  obtain ⟨c0, c1, c2, c3, c4, c5, c6, c7, c8, c9, c10, c11⟩ := f_t.cs
  have HH : Hid _ := And.intro E0 f_t
  clear E0 f_t hM
  go_enter Tryz.func48, Tryz.ntmps48
  go_wp2_with fail
  generalize w.alloc (.cells #[rV t.a.x, rV t.a.y, rV t.a.w, rV t.b.x, rV t.b.y, rV t.b.w, rV t.c.x, rV t.c.y, rV t.c.w, rV t.d.x, rV t.d.y, rV t.d.w] 86) = w0 at *
  clear c0 c1 c2 c3 c4 c5 c6 c7 c8 c9 c10 c11
  obtain ⟨E0, f_t⟩ := HH.out
  clear HH
  refine (mgap_pll mb _ s i t w0 E0.2 (hroom.mono (by omega)) h8).mono ?_
  rintro e w1 ⟨rfl, k1⟩
  have E1 := MkEnd.trans E0 k1
  have R1 : Room (L ++ prodD s t.a.x t.b.y t.a.y t.b.x) (s + 3) 4 := Room.app 3 (k := 4) hroom (Nat.le_of_eq rfl)
  have HH : Hid _ := E1
  clear k1 E0 E1 f_t hroom
  go_wp2_with fail
  have E1 := HH.out
  clear HH
  refine (misn_any mb _ (s + 3) i (s + 2) w1 E1.2 R1 (by omega)).mono ?_
  rintro e w2 ⟨rfl, k2⟩
  have HE : Hid _ := MkEnd.trans E1 k2
  clear k2 E1
  go_wp2_with fail
  go_ret
  have hL : (L ++ prodD s t.a.x t.b.y t.a.y t.b.x) ++ isnL (s + 3) (s + 2) = L ++ (prodD s t.a.x t.b.y t.a.y t.b.x ++ isnL (s + 3) (s + 2)) := List.append_assoc _ _ _
  exact ⟨rfl, by rw [← hL]; exact HE.out⟩

set_option maxHeartbeats 800000 in
theorem mask_prp (mb : Nat) (L : List Stp) (s i : Nat) (t : Th) (w : World) (hM : Mkr w mb L s i) (hroom : Room L s 7) (h8 : S12 t) :
    Calls Tryz.prog 48 #[mP mb, S [112, 114, 112], thV t] w fun e w' => e = .returned (rV (s + 6)) ∧ MkEnd w w' mb (L ++ (prodS s t.a.x t.b.x t.a.y t.b.y ++ isnL (s + 3) (s + 2))) (s + 7) i := by
  have r2 := hroom.2
  have E0 : MkEnd w (w.alloc (thB t)) mb L s i := MkEnd.al (show MkEnd w w mb L s i from ⟨Kp.refl mb w, hM⟩) _
  have f_t := AtH.new w t
  obtain ⟨c0, c1, c2, c3, c4, c5, c6, c7, c8, c9, c10, c11⟩ := f_t.cs
  have HH : Hid _ := And.intro E0 f_t
  clear E0 f_t hM
  go_enter Tryz.func48, Tryz.ntmps48
  go_wp2_with fail
  generalize w.alloc (.cells #[rV t.a.x, rV t.a.y, rV t.a.w, rV t.b.x, rV t.b.y, rV t.b.w, rV t.c.x, rV t.c.y, rV t.c.w, rV t.d.x, rV t.d.y, rV t.d.w] 86) = w0 at *
  clear c0 c1 c2 c3 c4 c5 c6 c7 c8 c9 c10 c11
  obtain ⟨E0, f_t⟩ := HH.out
  clear HH
  refine (mgap_prp mb _ s i t w0 E0.2 (hroom.mono (by omega)) h8).mono ?_
  rintro e w1 ⟨rfl, k1⟩
  have E1 := MkEnd.trans E0 k1
  have R1 : Room (L ++ prodS s t.a.x t.b.x t.a.y t.b.y) (s + 3) 4 := Room.app 3 (k := 4) hroom (Nat.le_of_eq rfl)
  have HH : Hid _ := E1
  clear k1 E0 E1 f_t hroom
  go_wp2_with fail
  have E1 := HH.out
  clear HH
  refine (misn_any mb _ (s + 3) i (s + 2) w1 E1.2 R1 (by omega)).mono ?_
  rintro e w2 ⟨rfl, k2⟩
  have HE : Hid _ := MkEnd.trans E1 k2
  clear k2 E1
  go_wp2_with fail
  go_ret
  have hL : (L ++ prodS s t.a.x t.b.x t.a.y t.b.y) ++ isnL (s + 3) (s + 2) = L ++ (prodS s t.a.x t.b.x t.a.y t.b.y ++ isnL (s + 3) (s + 2)) := List.append_assoc _ _ _
  exact ⟨rfl, by rw [← hL]; exact HE.out⟩

set_option maxHeartbeats 800000 in
theorem mask_col (mb : Nat) (L : List Stp) (s i : Nat) (t : Th) (w : World) (hM : Mkr w mb L s i) (hroom : Room L s 18) (h8 : S12 t) :
    Calls Tryz.prog 48 #[mP mb, S [99, 111, 108], thV t] w fun e w' => e = .returned (rV (s + 17)) ∧ MkEnd w w' mb (L ++ (volL s t.a t.b t.c ++ isnL (s + 14) (s + 13))) (s + 18) i := by
  have r2 := hroom.2
  have E0 : MkEnd w (w.alloc (thB t)) mb L s i := MkEnd.al (show MkEnd w w mb L s i from ⟨Kp.refl mb w, hM⟩) _
  have f_t := AtH.new w t
  obtain ⟨c0, c1, c2, c3, c4, c5, c6, c7, c8, c9, c10, c11⟩ := f_t.cs
  have HH : Hid _ := And.intro E0 f_t
  clear E0 f_t hM
  go_enter Tryz.func48, Tryz.ntmps48
  go_wp2_with fail
  generalize w.alloc (.cells #[rV t.a.x, rV t.a.y, rV t.a.w, rV t.b.x, rV t.b.y, rV t.b.w, rV t.c.x, rV t.c.y, rV t.c.w, rV t.d.x, rV t.d.y, rV t.d.w] 86) = w0 at *
  clear c0 c1 c2 c3 c4 c5 c6 c7 c8 c9 c10 c11
  obtain ⟨E0, f_t⟩ := HH.out
  clear HH
  refine (mgap_col mb _ s i t w0 E0.2 (hroom.mono (by omega)) h8).mono ?_
  rintro e w1 ⟨rfl, k1⟩
  have E1 := MkEnd.trans E0 k1
  have R1 : Room (L ++ volL s t.a t.b t.c) (s + 14) 4 := Room.app 14 (k := 4) hroom (Nat.le_of_eq rfl)
  have HH : Hid _ := E1
  clear k1 E0 E1 f_t hroom
  go_wp2_with fail
  have E1 := HH.out
  clear HH
  refine (misn_any mb _ (s + 14) i (s + 13) w1 E1.2 R1 (by omega)).mono ?_
  rintro e w2 ⟨rfl, k2⟩
  have HE : Hid _ := MkEnd.trans E1 k2
  clear k2 E1
  go_wp2_with fail
  go_ret
  have hL : (L ++ volL s t.a t.b t.c) ++ isnL (s + 14) (s + 13) = L ++ (volL s t.a t.b t.c ++ isnL (s + 14) (s + 13)) := List.append_assoc _ _ _
  exact ⟨rfl, by rw [← hL]; exact HE.out⟩

set_option maxHeartbeats 800000 in
theorem mask_cc (mb : Nat) (L : List Stp) (s i : Nat) (t : Th) (w : World) (hM : Mkr w mb L s i) (hroom : Room L s 18) (h8 : S12 t) :
    Calls Tryz.prog 48 #[mP mb, S [99, 99], thV t] w fun e w' => e = .returned (rV (s + 17)) ∧ MkEnd w w' mb (L ++ (volL s t.a t.b t.c ++ isnL (s + 14) (s + 13))) (s + 18) i := by
  have r2 := hroom.2
  have E0 : MkEnd w (w.alloc (thB t)) mb L s i := MkEnd.al (show MkEnd w w mb L s i from ⟨Kp.refl mb w, hM⟩) _
  have f_t := AtH.new w t
  obtain ⟨c0, c1, c2, c3, c4, c5, c6, c7, c8, c9, c10, c11⟩ := f_t.cs
  have HH : Hid _ := And.intro E0 f_t
  clear E0 f_t hM
  go_enter Tryz.func48, Tryz.ntmps48
  go_wp2_with fail
  generalize w.alloc (.cells #[rV t.a.x, rV t.a.y, rV t.a.w, rV t.b.x, rV t.b.y, rV t.b.w, rV t.c.x, rV t.c.y, rV t.c.w, rV t.d.x, rV t.d.y, rV t.d.w] 86) = w0 at *
  clear c0 c1 c2 c3 c4 c5 c6 c7 c8 c9 c10 c11
  obtain ⟨E0, f_t⟩ := HH.out
  clear HH
  refine (mgap_cc mb _ s i t w0 E0.2 (hroom.mono (by omega)) h8).mono ?_
  rintro e w1 ⟨rfl, k1⟩
  have E1 := MkEnd.trans E0 k1
  have R1 : Room (L ++ volL s t.a t.b t.c) (s + 14) 4 := Room.app 14 (k := 4) hroom (Nat.le_of_eq rfl)
  have HH : Hid _ := E1
  clear k1 E0 E1 f_t hroom
  go_wp2_with fail
  have E1 := HH.out
  clear HH
  refine (misn_any mb _ (s + 14) i (s + 13) w1 E1.2 R1 (by omega)).mono ?_
  rintro e w2 ⟨rfl, k2⟩
  have HE : Hid _ := MkEnd.trans E1 k2
  clear k2 E1
  go_wp2_with fail
  go_ret
  have hL : (L ++ volL s t.a t.b t.c) ++ isnL (s + 14) (s + 13) = L ++ (volL s t.a t.b t.c ++ isnL (s + 14) (s + 13)) := List.append_assoc _ _ _
  exact ⟨rfl, by rw [← hL]; exact HE.out⟩

end Go.Proofs.YtmnfndpbblpjiabGreatDoor

/- The tables of words, on both sides. -/
namespace Go.Proofs.YtmnfndpbblpjiabGreatDoor
open Go.RowKit Pu

set_option maxHeartbeats 1000000 in
theorem sortGiven_any (s : ByteArray) (w : World) : Calls Tryz.prog 122 #[.string s] w fun e w' => e = .returned (.int .u8 (sG s.toList)) ∧ w = w' := by
  go_enter Tryz.func122, Tryz.ntmps122
  go_wp2
  all_goals go_ret
  all_goals refine ⟨?_, rfl⟩
  all_goals simp_all [sG]

set_option maxHeartbeats 1000000 in
theorem weightGiven_any (s : ByteArray) (sum last : Nat) (w : World) (h1 : sum ≤ 1000) (h2 : last ≤ 1000) : Calls Tryz.prog 123 #[.string s, .int .i64 sum, .int .i64 last] w fun e w' => e = .returned (.int .i64 (wG s.toList sum last)) ∧ w = w' := by
  go_enter Tryz.func123, Tryz.ntmps123
  go_wp2
  all_goals go_ret
  all_goals refine ⟨?_, rfl⟩
  all_goals simp_all [wG]

set_option maxHeartbeats 2000000 in
theorem questionTakes_any (s : ByteArray) (w : World) : Calls Tryz.prog 120 #[.string s] w fun e w' => e = .returned (.tuple #[S (qT s.toList).1, .bool (qT s.toList).2]) ∧ w = w' := by
  go_enter Tryz.func120, Tryz.ntmps120
  go_wp2
  all_goals go_ret2
  all_goals refine ⟨?_, rfl⟩
  all_goals simp_all [qT]

set_option maxHeartbeats 2000000 in
theorem constructionTakes_any (s : ByteArray) (w : World) : Calls Tryz.prog 121 #[.string s] w fun e w' => e = .returned (.tuple #[S (cT s.toList).1, .bool (cT s.toList).2]) ∧ w = w' := by
  go_enter Tryz.func121, Tryz.ntmps121
  go_wp2
  all_goals go_ret2
  all_goals refine ⟨?_, rfl⟩
  all_goals simp_all [cT]

set_option maxHeartbeats 4000000 in
set_option maxRecDepth 100000 in
theorem form_any (s : ByteArray) (w : World) : Calls Tryz.prog 148 #[.string s] w fun e w' => e = .returned (.tuple #[S (fm s.toList).1, .int .u8 (fm s.toList).2]) ∧ w = w' := by
  go_enter Tryz.func148, Tryz.ntmps148
  go_wp2
  all_goals go_ret2
  all_goals refine ⟨?_, rfl⟩
  all_goals simp_all [fm]
end Go.Proofs.YtmnfndpbblpjiabGreatDoor
