/- The maker: between, round. -/
import Derived.Test.YtmnfndpbblpjiaaGreatDoorZa42
namespace Go.Proofs.YtmnfndpbblpjiaaGreatDoor
open Go.RowKit Pu
set_option maxHeartbeats 1600000 in
theorem mbtw_any (mb : Nat) (L : List Stp) (s i : Nat) (a b c : Tr) (w : World) (hM : Mkr w mb L s i) (hroom : Room L s 38) (h_a : S8 a) (h_b : S8 b) (h_c : S8 c) :
    Calls Tryz.prog 95 #[mP mb, trV a, trV b, trV c] w fun e w' => e = .returned (rV (s + 37)) ∧ MkEnd w w' mb (L ++ btwL s a b c) (s + 38) (i + 0) := by
  obtain ⟨h_ax, h_ay, h_aw⟩ := h_a
  obtain ⟨h_bx, h_by, h_bw⟩ := h_b
  obtain ⟨h_cx, h_cy, h_cw⟩ := h_c
  have r2 := hroom.2
  have E0 : MkEnd w (((((w.alloc (trO a))).alloc (trO b))).alloc (trO c)) mb L s i := (MkEnd.al (MkEnd.al (MkEnd.al (show MkEnd w w mb L s i from ⟨Kp.refl mb w, hM⟩) _) _) _)
  have f_a : AtT (((((w.alloc (trO a))).alloc (trO b))).alloc (trO c)) (w.heap.size) a := by
    have h := heap_alloc_new w (trO a)
    exact (At3.al (At3.al h _) _)
  have f_b : AtT (((((w.alloc (trO a))).alloc (trO b))).alloc (trO c)) (w.heap.size + 1) b := by
    have h := heap_alloc_new (w.alloc (trO a)) (trO b)
    simp only [sz_al] at h
    exact (At3.al h _)
  have f_c : AtT (((((w.alloc (trO a))).alloc (trO b))).alloc (trO c)) (w.heap.size + 1 + 1) c := by
    have h := heap_alloc_new (((w.alloc (trO a))).alloc (trO b)) (trO c)
    simp only [sz_al] at h
    exact h
  have hsz : w.heap.size + 3 ≤ ((((((w.alloc (trO a))).alloc (trO b))).alloc (trO c))).heap.size := by simp only [sz_al]; omega
  go_enter Tryz.func95, Tryz.ntmps95
  go_wp2_with fail
  generalize (((w.alloc (.cells #[rV a.x, rV a.y, rV a.w] 88)).alloc (.cells #[rV b.x, rV b.y, rV b.w] 88)).alloc (.cells #[rV c.x, rV c.y, rV c.w] 88)) = w0 at *
  refine (mvol_any mb _ s i a b c w0 E0.2 (hroom.mono (by omega)) ⟨h_ax, h_ay, h_aw⟩ ⟨h_bx, h_by, h_bw⟩ ⟨h_cx, h_cy, h_cw⟩).mono ?_
  rintro e w1 ⟨he, k1⟩
  obtain ⟨v_v, hv⟩ : ∃ x : Nat, x = s + 13 := ⟨_, rfl⟩
  have b_v : v_v < 256 := by omega
  have he2 : e = .returned (rV v_v) := by rw [hv]; exact he
  have Hv_v : Hid (v_v = s + 13) := hv
  clear he hv
  subst he2
  have E1 : MkEnd w w1 mb (L ++ volL s a b c) (s + 14) (i) := MkEnd.trans E0 k1
  have R1 : Room (L ++ volL s a b c) (s + 14) 24 := Room.app 14 (k := 24) hroom (Nat.le_of_eq rfl)
  replace f_a := At3.kp f_a k1.1
  replace f_b := At3.kp f_b k1.1
  replace f_c := At3.kp f_c k1.1
  replace hsz := Nat.le_trans hsz k1.1.size
  clear k1 E0 hroom
  obtain ⟨q_a0, q_a1, q_a2⟩ := cells3 f_a
  obtain ⟨q_b0, q_b1, q_b2⟩ := cells3 f_b
  obtain ⟨q_c0, q_c1, q_c2⟩ := cells3 f_c
  have HH : Hid _ := And.intro E1 (And.intro hsz (And.intro f_a (And.intro f_b f_c)))
  clear E1 hsz f_a f_b f_c
  go_wp2_with fail
  clear q_a0 q_a1 q_a2 q_b0 q_b1 q_b2 q_c0 q_c1 q_c2
  obtain ⟨E1, hsz, f_a, f_b, f_c⟩ := HH.out
  clear HH
  refine (misn_any mb _ (s + 14) i v_v w1 E1.2 (R1.mono (by omega)) b_v).mono ?_
  rintro e w2 ⟨he, k2⟩
  obtain ⟨v_st, hv⟩ : ∃ x : Nat, x = s + 14 + 3 := ⟨_, rfl⟩
  have b_st : v_st < 256 := by omega
  have he2 : e = .returned (rV v_st) := by rw [hv]; exact he
  have Hv_st : Hid (v_st = s + 14 + 3) := hv
  clear he hv
  subst he2
  have E2 : MkEnd w w2 mb ((L ++ volL s a b c) ++ isnL (s + 14) v_v) (s + 18) (i) := MkEnd.trans E1 k2
  have R2 : Room ((L ++ volL s a b c) ++ isnL (s + 14) v_v) (s + 18) 20 := Room.app 4 (k := 20) R1 (Nat.le_of_eq rfl)
  replace f_a := At3.kp f_a k2.1
  replace f_b := At3.kp f_b k2.1
  replace f_c := At3.kp f_c k2.1
  replace hsz := Nat.le_trans hsz k2.1.size
  clear k2 E1 R1
  obtain ⟨q_a0, q_a1, q_a2⟩ := cells3 f_a
  obtain ⟨q_b0, q_b1, q_b2⟩ := cells3 f_b
  obtain ⟨q_c0, q_c1, q_c2⟩ := cells3 f_c
  have HH : Hid _ := And.intro E2 (And.intro hsz (And.intro f_a (And.intro f_b f_c)))
  clear E2 hsz f_a f_b f_c
  go_wp2_with fail
  clear q_a0 q_a1 q_a2 q_b0 q_b1 q_b2 q_c0 q_c1 q_c2
  obtain ⟨E2, hsz, f_a, f_b, f_c⟩ := HH.out
  clear HH
  refine (mway_any mb _ (s + 18) i b a w2 E2.2 (R2.mono (by omega)) ⟨h_bx, h_by, h_bw⟩ ⟨h_ax, h_ay, h_aw⟩).mono ?_
  rintro e w3 ⟨rfl, k3⟩
  have E3 : MkEnd w w3 mb (((L ++ volL s a b c) ++ isnL (s + 14) v_v) ++ wayL (s + 18) b a) (s + 25) (i) := MkEnd.trans E2 k3
  have R3 : Room (((L ++ volL s a b c) ++ isnL (s + 14) v_v) ++ wayL (s + 18) b a) (s + 25) 13 := Room.app 7 (k := 13) R2 (Nat.le_of_eq rfl)
  replace f_a := At3.kp f_a k3.1
  replace f_b := At3.kp f_b k3.1
  replace f_c := At3.kp f_c k3.1
  replace hsz := Nat.le_trans hsz k3.1.size
  clear k3 E2 R2
  have f_f : AtT (w3.alloc (.cells #[rV (wayR (s + 18)).x, rV (wayR (s + 18)).y, rV (wayR (s + 18)).w] 88)) w3.heap.size (wayR (s + 18)) := heap_alloc_new w3 _
  replace E3 := E3.al (.cells #[rV (wayR (s + 18)).x, rV (wayR (s + 18)).y, rV (wayR (s + 18)).w] 88)
  replace f_a := At3.al f_a (.cells #[rV (wayR (s + 18)).x, rV (wayR (s + 18)).y, rV (wayR (s + 18)).w] 88)
  replace f_b := At3.al f_b (.cells #[rV (wayR (s + 18)).x, rV (wayR (s + 18)).y, rV (wayR (s + 18)).w] 88)
  replace f_c := At3.al f_c (.cells #[rV (wayR (s + 18)).x, rV (wayR (s + 18)).y, rV (wayR (s + 18)).w] 88)
  replace hsz : _ ≤ (w3.alloc (.cells #[rV (wayR (s + 18)).x, rV (wayR (s + 18)).y, rV (wayR (s + 18)).w] 88)).heap.size := Nat.le_trans hsz (by simp)
  obtain ⟨q_a0, q_a1, q_a2⟩ := cells3 f_a
  obtain ⟨q_b0, q_b1, q_b2⟩ := cells3 f_b
  obtain ⟨q_c0, q_c1, q_c2⟩ := cells3 f_c
  obtain ⟨q_f0, q_f1, q_f2⟩ := cells3 f_f
  have HH : Hid _ := And.intro E3 (And.intro hsz (And.intro f_a (And.intro f_b (And.intro f_c f_f))))
  clear E3 hsz f_a f_b f_c f_f
  go_wp2_with fail
  generalize w3.alloc (.cells #[rV (wayR (s + 18)).x, rV (wayR (s + 18)).y, rV (wayR (s + 18)).w] 88) = w3b at *
  clear q_a0 q_a1 q_a2 q_b0 q_b1 q_b2 q_c0 q_c1 q_c2 q_f0 q_f1 q_f2
  obtain ⟨E3, hsz, f_a, f_b, f_c, f_f⟩ := HH.out
  clear HH
  refine (mway_any mb _ (s + 25) i b c w3b E3.2 (R3.mono (by omega)) ⟨h_bx, h_by, h_bw⟩ ⟨h_cx, h_cy, h_cw⟩).mono ?_
  rintro e w4 ⟨rfl, k4⟩
  have E4 : MkEnd w w4 mb ((((L ++ volL s a b c) ++ isnL (s + 14) v_v) ++ wayL (s + 18) b a) ++ wayL (s + 25) b c) (s + 32) (i) := MkEnd.trans E3 k4
  have R4 : Room ((((L ++ volL s a b c) ++ isnL (s + 14) v_v) ++ wayL (s + 18) b a) ++ wayL (s + 25) b c) (s + 32) 6 := Room.app 7 (k := 6) R3 (Nat.le_of_eq rfl)
  replace f_a := At3.kp f_a k4.1
  replace f_b := At3.kp f_b k4.1
  replace f_c := At3.kp f_c k4.1
  replace f_f := At3.kp f_f k4.1
  replace hsz := Nat.le_trans hsz k4.1.size
  clear k4 E3 R3
  have f_t : AtT (w4.alloc (.cells #[rV (wayR (s + 25)).x, rV (wayR (s + 25)).y, rV (wayR (s + 25)).w] 88)) w4.heap.size (wayR (s + 25)) := heap_alloc_new w4 _
  replace E4 := E4.al (.cells #[rV (wayR (s + 25)).x, rV (wayR (s + 25)).y, rV (wayR (s + 25)).w] 88)
  replace f_a := At3.al f_a (.cells #[rV (wayR (s + 25)).x, rV (wayR (s + 25)).y, rV (wayR (s + 25)).w] 88)
  replace f_b := At3.al f_b (.cells #[rV (wayR (s + 25)).x, rV (wayR (s + 25)).y, rV (wayR (s + 25)).w] 88)
  replace f_c := At3.al f_c (.cells #[rV (wayR (s + 25)).x, rV (wayR (s + 25)).y, rV (wayR (s + 25)).w] 88)
  replace f_f := At3.al f_f (.cells #[rV (wayR (s + 25)).x, rV (wayR (s + 25)).y, rV (wayR (s + 25)).w] 88)
  replace hsz : _ ≤ (w4.alloc (.cells #[rV (wayR (s + 25)).x, rV (wayR (s + 25)).y, rV (wayR (s + 25)).w] 88)).heap.size := Nat.le_trans hsz (by simp)
  obtain ⟨q_a0, q_a1, q_a2⟩ := cells3 f_a
  obtain ⟨q_b0, q_b1, q_b2⟩ := cells3 f_b
  obtain ⟨q_c0, q_c1, q_c2⟩ := cells3 f_c
  obtain ⟨q_f0, q_f1, q_f2⟩ := cells3 f_f
  obtain ⟨q_t0, q_t1, q_t2⟩ := cells3 f_t
  have HH : Hid _ := And.intro E4 (And.intro hsz (And.intro f_a (And.intro f_b (And.intro f_c (And.intro f_f f_t)))))
  clear E4 hsz f_a f_b f_c f_f f_t
  go_wp2_with fail
  generalize w4.alloc (.cells #[rV (wayR (s + 25)).x, rV (wayR (s + 25)).y, rV (wayR (s + 25)).w] 88) = w4b at *
  clear q_a0 q_a1 q_a2 q_b0 q_b1 q_b2 q_c0 q_c1 q_c2 q_f0 q_f1 q_f2 q_t0 q_t1 q_t2
  obtain ⟨E4, hsz, f_a, f_b, f_c, f_f, f_t⟩ := HH.out
  clear HH
  refine (mpS_any mb _ (s + 32) i (s + 20) (s + 27) (s + 23) (s + 30) w4b E4.2 (R4.mono (by omega)) (by omega) (by omega) (by omega) (by omega)).mono ?_
  rintro e w5 ⟨he, k5⟩
  obtain ⟨v_tg, hv⟩ : ∃ x : Nat, x = s + 32 + 2 := ⟨_, rfl⟩
  have b_tg : v_tg < 256 := by omega
  have he2 : e = .returned (rV v_tg) := by rw [hv]; exact he
  have Hv_tg : Hid (v_tg = s + 32 + 2) := hv
  clear he hv
  subst he2
  have E5 : MkEnd w w5 mb (((((L ++ volL s a b c) ++ isnL (s + 14) v_v) ++ wayL (s + 18) b a) ++ wayL (s + 25) b c) ++ prodS (s + 32) (s + 20) (s + 27) (s + 23) (s + 30)) (s + 35) (i) := MkEnd.trans E4 k5
  have R5 : Room (((((L ++ volL s a b c) ++ isnL (s + 14) v_v) ++ wayL (s + 18) b a) ++ wayL (s + 25) b c) ++ prodS (s + 32) (s + 20) (s + 27) (s + 23) (s + 30)) (s + 35) 3 := Room.app 3 (k := 3) R4 (Nat.le_of_eq rfl)
  replace f_a := At3.kp f_a k5.1
  replace f_b := At3.kp f_b k5.1
  replace f_c := At3.kp f_c k5.1
  replace f_f := At3.kp f_f k5.1
  replace f_t := At3.kp f_t k5.1
  replace hsz := Nat.le_trans hsz k5.1.size
  clear k5 E4 R4
  obtain ⟨q_a0, q_a1, q_a2⟩ := cells3 f_a
  obtain ⟨q_b0, q_b1, q_b2⟩ := cells3 f_b
  obtain ⟨q_c0, q_c1, q_c2⟩ := cells3 f_c
  obtain ⟨q_f0, q_f1, q_f2⟩ := cells3 f_f
  obtain ⟨q_t0, q_t1, q_t2⟩ := cells3 f_t
  have HH : Hid _ := And.intro E5 (And.intro hsz (And.intro f_a (And.intro f_b (And.intro f_c (And.intro f_f f_t)))))
  clear E5 hsz f_a f_b f_c f_f f_t
  go_wp2_with fail
  clear q_a0 q_a1 q_a2 q_b0 q_b1 q_b2 q_c0 q_c1 q_c2 q_f0 q_f1 q_f2 q_t0 q_t1 q_t2
  obtain ⟨E5, hsz, f_a, f_b, f_c, f_f, f_t⟩ := HH.out
  clear HH
  refine (mneg_any mb _ (s + 35) i v_tg w5 E5.2 (R5.mono (by omega)) b_tg).mono ?_
  rintro e w6 ⟨he, k6⟩
  obtain ⟨v_ap, hv⟩ : ∃ x : Nat, x = s + 35 + 1 := ⟨_, rfl⟩
  have b_ap : v_ap < 256 := by omega
  have he2 : e = .returned (rV v_ap) := by rw [hv]; exact he
  have Hv_ap : Hid (v_ap = s + 35 + 1) := hv
  clear he hv
  subst he2
  have E6 : MkEnd w w6 mb ((((((L ++ volL s a b c) ++ isnL (s + 14) v_v) ++ wayL (s + 18) b a) ++ wayL (s + 25) b c) ++ prodS (s + 32) (s + 20) (s + 27) (s + 23) (s + 30)) ++ negL (s + 35) v_tg) (s + 37) (i) := MkEnd.trans E5 k6
  have R6 : Room ((((((L ++ volL s a b c) ++ isnL (s + 14) v_v) ++ wayL (s + 18) b a) ++ wayL (s + 25) b c) ++ prodS (s + 32) (s + 20) (s + 27) (s + 23) (s + 30)) ++ negL (s + 35) v_tg) (s + 37) 1 := Room.app 2 (k := 1) R5 (Nat.le_of_eq rfl)
  replace f_a := At3.kp f_a k6.1
  replace f_b := At3.kp f_b k6.1
  replace f_c := At3.kp f_c k6.1
  replace f_f := At3.kp f_f k6.1
  replace f_t := At3.kp f_t k6.1
  replace hsz := Nat.le_trans hsz k6.1.size
  clear k6 E5 R5
  obtain ⟨q_a0, q_a1, q_a2⟩ := cells3 f_a
  obtain ⟨q_b0, q_b1, q_b2⟩ := cells3 f_b
  obtain ⟨q_c0, q_c1, q_c2⟩ := cells3 f_c
  obtain ⟨q_f0, q_f1, q_f2⟩ := cells3 f_f
  obtain ⟨q_t0, q_t1, q_t2⟩ := cells3 f_t
  have HH : Hid _ := And.intro E6 (And.intro hsz (And.intro f_a (And.intro f_b (And.intro f_c (And.intro f_f f_t)))))
  clear E6 hsz f_a f_b f_c f_f f_t
  go_wp2_with fail
  clear q_a0 q_a1 q_a2 q_b0 q_b1 q_b2 q_c0 q_c1 q_c2 q_f0 q_f1 q_f2 q_t0 q_t1 q_t2
  obtain ⟨E6, hsz, f_a, f_b, f_c, f_f, f_t⟩ := HH.out
  clear HH
  refine (mpro_any mb _ (s + 37) i v_st v_ap w6 E6.2 (R6.mono (by omega)) b_st b_ap).mono ?_
  rintro e w7 ⟨rfl, k7⟩
  have E7 : MkEnd w w7 mb (((((((L ++ volL s a b c) ++ isnL (s + 14) v_v) ++ wayL (s + 18) b a) ++ wayL (s + 25) b c) ++ prodS (s + 32) (s + 20) (s + 27) (s + 23) (s + 30)) ++ negL (s + 35) v_tg) ++ [⟨4, s + 37, v_st, v_ap⟩]) (s + 38) (i) := MkEnd.trans E6 k7
  replace f_a := At3.kp f_a k7.1
  replace f_b := At3.kp f_b k7.1
  replace f_c := At3.kp f_c k7.1
  replace f_f := At3.kp f_f k7.1
  replace f_t := At3.kp f_t k7.1
  replace hsz := Nat.le_trans hsz k7.1.size
  clear k7 E6 R6
  have HE : Hid _ := E7
  clear E7 f_a f_b f_c f_f f_t
  go_wp2_with fail
  go_ret
  have hL : (((((((L ++ volL s a b c) ++ isnL (s + 14) v_v) ++ wayL (s + 18) b a) ++ wayL (s + 25) b c) ++ prodS (s + 32) (s + 20) (s + 27) (s + 23) (s + 30)) ++ negL (s + 35) v_tg) ++ [⟨4, s + 37, v_st, v_ap⟩]) = L ++ btwL s a b c := by
    have e_v := Hv_v.out
    have e_st := Hv_st.out
    have e_tg := Hv_tg.out
    have e_ap := Hv_ap.out
    subst e_v e_st e_tg e_ap
    simp only [List.append_assoc]
    rfl
  exact ⟨rfl, by rw [← hL]; exact HE.out⟩
set_option maxHeartbeats 1600000 in
theorem mrnd_any (mb : Nat) (L : List Stp) (s i : Nat) (a b c d : Tr) (w : World) (hM : Mkr w mb L s i) (hroom : Room L s 50) (h_a : S8 a) (h_b : S8 b) (h_c : S8 c) (h_d : S8 d) :
    Calls Tryz.prog 151 #[mP mb, trV a, trV b, trV c, trV d] w fun e w' => e = .returned (rV (s + 49)) ∧ MkEnd w w' mb (L ++ rndL s a b c d) (s + 50) (i + 0) := by
  obtain ⟨h_ax, h_ay, h_aw⟩ := h_a
  obtain ⟨h_bx, h_by, h_bw⟩ := h_b
  obtain ⟨h_cx, h_cy, h_cw⟩ := h_c
  obtain ⟨h_dx, h_dy, h_dw⟩ := h_d
  have r2 := hroom.2
  have E0 : MkEnd w (((((((w.alloc (trO a))).alloc (trO b))).alloc (trO c))).alloc (trO d)) mb L s i := (MkEnd.al (MkEnd.al (MkEnd.al (MkEnd.al (show MkEnd w w mb L s i from ⟨Kp.refl mb w, hM⟩) _) _) _) _)
  have f_a : AtT (((((((w.alloc (trO a))).alloc (trO b))).alloc (trO c))).alloc (trO d)) (w.heap.size) a := by
    have h := heap_alloc_new w (trO a)
    exact (At3.al (At3.al (At3.al h _) _) _)
  have f_b : AtT (((((((w.alloc (trO a))).alloc (trO b))).alloc (trO c))).alloc (trO d)) (w.heap.size + 1) b := by
    have h := heap_alloc_new (w.alloc (trO a)) (trO b)
    simp only [sz_al] at h
    exact (At3.al (At3.al h _) _)
  have f_c : AtT (((((((w.alloc (trO a))).alloc (trO b))).alloc (trO c))).alloc (trO d)) (w.heap.size + 1 + 1) c := by
    have h := heap_alloc_new (((w.alloc (trO a))).alloc (trO b)) (trO c)
    simp only [sz_al] at h
    exact (At3.al h _)
  have f_d : AtT (((((((w.alloc (trO a))).alloc (trO b))).alloc (trO c))).alloc (trO d)) (w.heap.size + 1 + 1 + 1) d := by
    have h := heap_alloc_new (((((w.alloc (trO a))).alloc (trO b))).alloc (trO c)) (trO d)
    simp only [sz_al] at h
    exact h
  have hsz : w.heap.size + 4 ≤ ((((((((w.alloc (trO a))).alloc (trO b))).alloc (trO c))).alloc (trO d))).heap.size := by simp only [sz_al]; omega
  go_enter Tryz.func151, Tryz.ntmps151
  go_wp2_with fail
  generalize ((((w.alloc (.cells #[rV a.x, rV a.y, rV a.w] 88)).alloc (.cells #[rV b.x, rV b.y, rV b.w] 88)).alloc (.cells #[rV c.x, rV c.y, rV c.w] 88)).alloc (.cells #[rV d.x, rV d.y, rV d.w] 88)) = w0 at *
  refine (mway_any mb _ s i a b w0 E0.2 (hroom.mono (by omega)) ⟨h_ax, h_ay, h_aw⟩ ⟨h_bx, h_by, h_bw⟩).mono ?_
  rintro e w1 ⟨rfl, k1⟩
  have E1 : MkEnd w w1 mb (L ++ wayL s a b) (s + 7) (i) := MkEnd.trans E0 k1
  have R1 : Room (L ++ wayL s a b) (s + 7) 43 := Room.app 7 (k := 43) hroom (Nat.le_of_eq rfl)
  replace f_a := At3.kp f_a k1.1
  replace f_b := At3.kp f_b k1.1
  replace f_c := At3.kp f_c k1.1
  replace f_d := At3.kp f_d k1.1
  replace hsz := Nat.le_trans hsz k1.1.size
  clear k1 E0 hroom
  have f_t1 : AtT (w1.alloc (.cells #[rV (wayR s).x, rV (wayR s).y, rV (wayR s).w] 88)) w1.heap.size (wayR s) := heap_alloc_new w1 _
  replace E1 := E1.al (.cells #[rV (wayR s).x, rV (wayR s).y, rV (wayR s).w] 88)
  replace f_a := At3.al f_a (.cells #[rV (wayR s).x, rV (wayR s).y, rV (wayR s).w] 88)
  replace f_b := At3.al f_b (.cells #[rV (wayR s).x, rV (wayR s).y, rV (wayR s).w] 88)
  replace f_c := At3.al f_c (.cells #[rV (wayR s).x, rV (wayR s).y, rV (wayR s).w] 88)
  replace f_d := At3.al f_d (.cells #[rV (wayR s).x, rV (wayR s).y, rV (wayR s).w] 88)
  replace hsz : _ ≤ (w1.alloc (.cells #[rV (wayR s).x, rV (wayR s).y, rV (wayR s).w] 88)).heap.size := Nat.le_trans hsz (by simp)
  obtain ⟨q_a0, q_a1, q_a2⟩ := cells3 f_a
  obtain ⟨q_b0, q_b1, q_b2⟩ := cells3 f_b
  obtain ⟨q_c0, q_c1, q_c2⟩ := cells3 f_c
  obtain ⟨q_d0, q_d1, q_d2⟩ := cells3 f_d
  obtain ⟨q_t10, q_t11, q_t12⟩ := cells3 f_t1
  have HH : Hid _ := And.intro E1 (And.intro hsz (And.intro f_a (And.intro f_b (And.intro f_c (And.intro f_d f_t1)))))
  clear E1 hsz f_a f_b f_c f_d f_t1
  go_wp2_with fail
  generalize w1.alloc (.cells #[rV (wayR s).x, rV (wayR s).y, rV (wayR s).w] 88) = w1b at *
  clear q_a0 q_a1 q_a2 q_b0 q_b1 q_b2 q_c0 q_c1 q_c2 q_d0 q_d1 q_d2 q_t10 q_t11 q_t12
  obtain ⟨E1, hsz, f_a, f_b, f_c, f_d, f_t1⟩ := HH.out
  clear HH
  refine (mway_any mb _ (s + 7) i a c w1b E1.2 (R1.mono (by omega)) ⟨h_ax, h_ay, h_aw⟩ ⟨h_cx, h_cy, h_cw⟩).mono ?_
  rintro e w2 ⟨rfl, k2⟩
  have E2 : MkEnd w w2 mb ((L ++ wayL s a b) ++ wayL (s + 7) a c) (s + 14) (i) := MkEnd.trans E1 k2
  have R2 : Room ((L ++ wayL s a b) ++ wayL (s + 7) a c) (s + 14) 36 := Room.app 7 (k := 36) R1 (Nat.le_of_eq rfl)
  replace f_a := At3.kp f_a k2.1
  replace f_b := At3.kp f_b k2.1
  replace f_c := At3.kp f_c k2.1
  replace f_d := At3.kp f_d k2.1
  replace f_t1 := At3.kp f_t1 k2.1
  replace hsz := Nat.le_trans hsz k2.1.size
  clear k2 E1 R1
  have f_t2 : AtT (w2.alloc (.cells #[rV (wayR (s + 7)).x, rV (wayR (s + 7)).y, rV (wayR (s + 7)).w] 88)) w2.heap.size (wayR (s + 7)) := heap_alloc_new w2 _
  replace E2 := E2.al (.cells #[rV (wayR (s + 7)).x, rV (wayR (s + 7)).y, rV (wayR (s + 7)).w] 88)
  replace f_a := At3.al f_a (.cells #[rV (wayR (s + 7)).x, rV (wayR (s + 7)).y, rV (wayR (s + 7)).w] 88)
  replace f_b := At3.al f_b (.cells #[rV (wayR (s + 7)).x, rV (wayR (s + 7)).y, rV (wayR (s + 7)).w] 88)
  replace f_c := At3.al f_c (.cells #[rV (wayR (s + 7)).x, rV (wayR (s + 7)).y, rV (wayR (s + 7)).w] 88)
  replace f_d := At3.al f_d (.cells #[rV (wayR (s + 7)).x, rV (wayR (s + 7)).y, rV (wayR (s + 7)).w] 88)
  replace f_t1 := At3.al f_t1 (.cells #[rV (wayR (s + 7)).x, rV (wayR (s + 7)).y, rV (wayR (s + 7)).w] 88)
  replace hsz : _ ≤ (w2.alloc (.cells #[rV (wayR (s + 7)).x, rV (wayR (s + 7)).y, rV (wayR (s + 7)).w] 88)).heap.size := Nat.le_trans hsz (by simp)
  obtain ⟨q_a0, q_a1, q_a2⟩ := cells3 f_a
  obtain ⟨q_b0, q_b1, q_b2⟩ := cells3 f_b
  obtain ⟨q_c0, q_c1, q_c2⟩ := cells3 f_c
  obtain ⟨q_d0, q_d1, q_d2⟩ := cells3 f_d
  obtain ⟨q_t10, q_t11, q_t12⟩ := cells3 f_t1
  obtain ⟨q_t20, q_t21, q_t22⟩ := cells3 f_t2
  have HH : Hid _ := And.intro E2 (And.intro hsz (And.intro f_a (And.intro f_b (And.intro f_c (And.intro f_d (And.intro f_t1 f_t2))))))
  clear E2 hsz f_a f_b f_c f_d f_t1 f_t2
  go_wp2_with fail
  generalize w2.alloc (.cells #[rV (wayR (s + 7)).x, rV (wayR (s + 7)).y, rV (wayR (s + 7)).w] 88) = w2b at *
  clear q_a0 q_a1 q_a2 q_b0 q_b1 q_b2 q_c0 q_c1 q_c2 q_d0 q_d1 q_d2 q_t10 q_t11 q_t12 q_t20 q_t21 q_t22
  obtain ⟨E2, hsz, f_a, f_b, f_c, f_d, f_t1, f_t2⟩ := HH.out
  clear HH
  refine (mway_any mb _ (s + 14) i a d w2b E2.2 (R2.mono (by omega)) ⟨h_ax, h_ay, h_aw⟩ ⟨h_dx, h_dy, h_dw⟩).mono ?_
  rintro e w3 ⟨rfl, k3⟩
  have E3 : MkEnd w w3 mb (((L ++ wayL s a b) ++ wayL (s + 7) a c) ++ wayL (s + 14) a d) (s + 21) (i) := MkEnd.trans E2 k3
  have R3 : Room (((L ++ wayL s a b) ++ wayL (s + 7) a c) ++ wayL (s + 14) a d) (s + 21) 29 := Room.app 7 (k := 29) R2 (Nat.le_of_eq rfl)
  replace f_a := At3.kp f_a k3.1
  replace f_b := At3.kp f_b k3.1
  replace f_c := At3.kp f_c k3.1
  replace f_d := At3.kp f_d k3.1
  replace f_t1 := At3.kp f_t1 k3.1
  replace f_t2 := At3.kp f_t2 k3.1
  replace hsz := Nat.le_trans hsz k3.1.size
  clear k3 E2 R2
  have f_t3 : AtT (w3.alloc (.cells #[rV (wayR (s + 14)).x, rV (wayR (s + 14)).y, rV (wayR (s + 14)).w] 88)) w3.heap.size (wayR (s + 14)) := heap_alloc_new w3 _
  replace E3 := E3.al (.cells #[rV (wayR (s + 14)).x, rV (wayR (s + 14)).y, rV (wayR (s + 14)).w] 88)
  replace f_a := At3.al f_a (.cells #[rV (wayR (s + 14)).x, rV (wayR (s + 14)).y, rV (wayR (s + 14)).w] 88)
  replace f_b := At3.al f_b (.cells #[rV (wayR (s + 14)).x, rV (wayR (s + 14)).y, rV (wayR (s + 14)).w] 88)
  replace f_c := At3.al f_c (.cells #[rV (wayR (s + 14)).x, rV (wayR (s + 14)).y, rV (wayR (s + 14)).w] 88)
  replace f_d := At3.al f_d (.cells #[rV (wayR (s + 14)).x, rV (wayR (s + 14)).y, rV (wayR (s + 14)).w] 88)
  replace f_t1 := At3.al f_t1 (.cells #[rV (wayR (s + 14)).x, rV (wayR (s + 14)).y, rV (wayR (s + 14)).w] 88)
  replace f_t2 := At3.al f_t2 (.cells #[rV (wayR (s + 14)).x, rV (wayR (s + 14)).y, rV (wayR (s + 14)).w] 88)
  replace hsz : _ ≤ (w3.alloc (.cells #[rV (wayR (s + 14)).x, rV (wayR (s + 14)).y, rV (wayR (s + 14)).w] 88)).heap.size := Nat.le_trans hsz (by simp)
  obtain ⟨q_a0, q_a1, q_a2⟩ := cells3 f_a
  obtain ⟨q_b0, q_b1, q_b2⟩ := cells3 f_b
  obtain ⟨q_c0, q_c1, q_c2⟩ := cells3 f_c
  obtain ⟨q_d0, q_d1, q_d2⟩ := cells3 f_d
  obtain ⟨q_t10, q_t11, q_t12⟩ := cells3 f_t1
  obtain ⟨q_t20, q_t21, q_t22⟩ := cells3 f_t2
  obtain ⟨q_t30, q_t31, q_t32⟩ := cells3 f_t3
  have HH : Hid _ := And.intro E3 (And.intro hsz (And.intro f_a (And.intro f_b (And.intro f_c (And.intro f_d (And.intro f_t1 (And.intro f_t2 f_t3)))))))
  clear E3 hsz f_a f_b f_c f_d f_t1 f_t2 f_t3
  go_wp2_with fail
  generalize w3.alloc (.cells #[rV (wayR (s + 14)).x, rV (wayR (s + 14)).y, rV (wayR (s + 14)).w] 88) = w3b at *
  clear q_a0 q_a1 q_a2 q_b0 q_b1 q_b2 q_c0 q_c1 q_c2 q_d0 q_d1 q_d2 q_t10 q_t11 q_t12 q_t20 q_t21 q_t22 q_t30 q_t31 q_t32
  obtain ⟨E3, hsz, f_a, f_b, f_c, f_d, f_t1, f_t2, f_t3⟩ := HH.out
  clear HH
  refine (mlif_any mb _ (s + 21) i (wayR s) w3b E3.2 (R3.mono (by omega)) ⟨by show s + 2 < 256; first | exact (by omega) | omega, by show s + 5 < 256; first | exact (by omega) | omega, by show s + 6 < 256; first | exact (by omega) | omega⟩).mono ?_
  rintro e w4 ⟨rfl, k4⟩
  have E4 : MkEnd w w4 mb ((((L ++ wayL s a b) ++ wayL (s + 7) a c) ++ wayL (s + 14) a d) ++ lifL (s + 21) (wayR s)) (s + 26) (i) := MkEnd.trans E3 k4
  have R4 : Room ((((L ++ wayL s a b) ++ wayL (s + 7) a c) ++ wayL (s + 14) a d) ++ lifL (s + 21) (wayR s)) (s + 26) 24 := Room.app 5 (k := 24) R3 (Nat.le_of_eq rfl)
  replace f_a := At3.kp f_a k4.1
  replace f_b := At3.kp f_b k4.1
  replace f_c := At3.kp f_c k4.1
  replace f_d := At3.kp f_d k4.1
  replace f_t1 := At3.kp f_t1 k4.1
  replace f_t2 := At3.kp f_t2 k4.1
  replace f_t3 := At3.kp f_t3 k4.1
  replace hsz := Nat.le_trans hsz k4.1.size
  clear k4 E3 R3
  have f_l1 : AtT (w4.alloc (.cells #[rV (lifR (s + 21)).x, rV (lifR (s + 21)).y, rV (lifR (s + 21)).w] 88)) w4.heap.size (lifR (s + 21)) := heap_alloc_new w4 _
  replace E4 := E4.al (.cells #[rV (lifR (s + 21)).x, rV (lifR (s + 21)).y, rV (lifR (s + 21)).w] 88)
  replace f_a := At3.al f_a (.cells #[rV (lifR (s + 21)).x, rV (lifR (s + 21)).y, rV (lifR (s + 21)).w] 88)
  replace f_b := At3.al f_b (.cells #[rV (lifR (s + 21)).x, rV (lifR (s + 21)).y, rV (lifR (s + 21)).w] 88)
  replace f_c := At3.al f_c (.cells #[rV (lifR (s + 21)).x, rV (lifR (s + 21)).y, rV (lifR (s + 21)).w] 88)
  replace f_d := At3.al f_d (.cells #[rV (lifR (s + 21)).x, rV (lifR (s + 21)).y, rV (lifR (s + 21)).w] 88)
  replace f_t1 := At3.al f_t1 (.cells #[rV (lifR (s + 21)).x, rV (lifR (s + 21)).y, rV (lifR (s + 21)).w] 88)
  replace f_t2 := At3.al f_t2 (.cells #[rV (lifR (s + 21)).x, rV (lifR (s + 21)).y, rV (lifR (s + 21)).w] 88)
  replace f_t3 := At3.al f_t3 (.cells #[rV (lifR (s + 21)).x, rV (lifR (s + 21)).y, rV (lifR (s + 21)).w] 88)
  replace hsz : _ ≤ (w4.alloc (.cells #[rV (lifR (s + 21)).x, rV (lifR (s + 21)).y, rV (lifR (s + 21)).w] 88)).heap.size := Nat.le_trans hsz (by simp)
  obtain ⟨q_a0, q_a1, q_a2⟩ := cells3 f_a
  obtain ⟨q_b0, q_b1, q_b2⟩ := cells3 f_b
  obtain ⟨q_c0, q_c1, q_c2⟩ := cells3 f_c
  obtain ⟨q_d0, q_d1, q_d2⟩ := cells3 f_d
  obtain ⟨q_t10, q_t11, q_t12⟩ := cells3 f_t1
  obtain ⟨q_t20, q_t21, q_t22⟩ := cells3 f_t2
  obtain ⟨q_t30, q_t31, q_t32⟩ := cells3 f_t3
  obtain ⟨q_l10, q_l11, q_l12⟩ := cells3 f_l1
  have HH : Hid _ := And.intro E4 (And.intro hsz (And.intro f_a (And.intro f_b (And.intro f_c (And.intro f_d (And.intro f_t1 (And.intro f_t2 (And.intro f_t3 f_l1))))))))
  clear E4 hsz f_a f_b f_c f_d f_t1 f_t2 f_t3 f_l1
  go_wp2_with fail
  generalize w4.alloc (.cells #[rV (lifR (s + 21)).x, rV (lifR (s + 21)).y, rV (lifR (s + 21)).w] 88) = w4b at *
  clear q_a0 q_a1 q_a2 q_b0 q_b1 q_b2 q_c0 q_c1 q_c2 q_d0 q_d1 q_d2 q_t10 q_t11 q_t12 q_t20 q_t21 q_t22 q_t30 q_t31 q_t32 q_l10 q_l11 q_l12
  obtain ⟨E4, hsz, f_a, f_b, f_c, f_d, f_t1, f_t2, f_t3, f_l1⟩ := HH.out
  clear HH
  refine (mlif_any mb _ (s + 26) i (wayR (s + 7)) w4b E4.2 (R4.mono (by omega)) ⟨by show s + 9 < 256; first | exact (by omega) | omega, by show s + 12 < 256; first | exact (by omega) | omega, by show s + 13 < 256; first | exact (by omega) | omega⟩).mono ?_
  rintro e w5 ⟨rfl, k5⟩
  have E5 : MkEnd w w5 mb (((((L ++ wayL s a b) ++ wayL (s + 7) a c) ++ wayL (s + 14) a d) ++ lifL (s + 21) (wayR s)) ++ lifL (s + 26) (wayR (s + 7))) (s + 31) (i) := MkEnd.trans E4 k5
  have R5 : Room (((((L ++ wayL s a b) ++ wayL (s + 7) a c) ++ wayL (s + 14) a d) ++ lifL (s + 21) (wayR s)) ++ lifL (s + 26) (wayR (s + 7))) (s + 31) 19 := Room.app 5 (k := 19) R4 (Nat.le_of_eq rfl)
  replace f_a := At3.kp f_a k5.1
  replace f_b := At3.kp f_b k5.1
  replace f_c := At3.kp f_c k5.1
  replace f_d := At3.kp f_d k5.1
  replace f_t1 := At3.kp f_t1 k5.1
  replace f_t2 := At3.kp f_t2 k5.1
  replace f_t3 := At3.kp f_t3 k5.1
  replace f_l1 := At3.kp f_l1 k5.1
  replace hsz := Nat.le_trans hsz k5.1.size
  clear k5 E4 R4
  have f_l2 : AtT (w5.alloc (.cells #[rV (lifR (s + 26)).x, rV (lifR (s + 26)).y, rV (lifR (s + 26)).w] 88)) w5.heap.size (lifR (s + 26)) := heap_alloc_new w5 _
  replace E5 := E5.al (.cells #[rV (lifR (s + 26)).x, rV (lifR (s + 26)).y, rV (lifR (s + 26)).w] 88)
  replace f_a := At3.al f_a (.cells #[rV (lifR (s + 26)).x, rV (lifR (s + 26)).y, rV (lifR (s + 26)).w] 88)
  replace f_b := At3.al f_b (.cells #[rV (lifR (s + 26)).x, rV (lifR (s + 26)).y, rV (lifR (s + 26)).w] 88)
  replace f_c := At3.al f_c (.cells #[rV (lifR (s + 26)).x, rV (lifR (s + 26)).y, rV (lifR (s + 26)).w] 88)
  replace f_d := At3.al f_d (.cells #[rV (lifR (s + 26)).x, rV (lifR (s + 26)).y, rV (lifR (s + 26)).w] 88)
  replace f_t1 := At3.al f_t1 (.cells #[rV (lifR (s + 26)).x, rV (lifR (s + 26)).y, rV (lifR (s + 26)).w] 88)
  replace f_t2 := At3.al f_t2 (.cells #[rV (lifR (s + 26)).x, rV (lifR (s + 26)).y, rV (lifR (s + 26)).w] 88)
  replace f_t3 := At3.al f_t3 (.cells #[rV (lifR (s + 26)).x, rV (lifR (s + 26)).y, rV (lifR (s + 26)).w] 88)
  replace f_l1 := At3.al f_l1 (.cells #[rV (lifR (s + 26)).x, rV (lifR (s + 26)).y, rV (lifR (s + 26)).w] 88)
  replace hsz : _ ≤ (w5.alloc (.cells #[rV (lifR (s + 26)).x, rV (lifR (s + 26)).y, rV (lifR (s + 26)).w] 88)).heap.size := Nat.le_trans hsz (by simp)
  obtain ⟨q_a0, q_a1, q_a2⟩ := cells3 f_a
  obtain ⟨q_b0, q_b1, q_b2⟩ := cells3 f_b
  obtain ⟨q_c0, q_c1, q_c2⟩ := cells3 f_c
  obtain ⟨q_d0, q_d1, q_d2⟩ := cells3 f_d
  obtain ⟨q_t10, q_t11, q_t12⟩ := cells3 f_t1
  obtain ⟨q_t20, q_t21, q_t22⟩ := cells3 f_t2
  obtain ⟨q_t30, q_t31, q_t32⟩ := cells3 f_t3
  obtain ⟨q_l10, q_l11, q_l12⟩ := cells3 f_l1
  obtain ⟨q_l20, q_l21, q_l22⟩ := cells3 f_l2
  have HH : Hid _ := And.intro E5 (And.intro hsz (And.intro f_a (And.intro f_b (And.intro f_c (And.intro f_d (And.intro f_t1 (And.intro f_t2 (And.intro f_t3 (And.intro f_l1 f_l2)))))))))
  clear E5 hsz f_a f_b f_c f_d f_t1 f_t2 f_t3 f_l1 f_l2
  go_wp2_with fail
  generalize w5.alloc (.cells #[rV (lifR (s + 26)).x, rV (lifR (s + 26)).y, rV (lifR (s + 26)).w] 88) = w5b at *
  clear q_a0 q_a1 q_a2 q_b0 q_b1 q_b2 q_c0 q_c1 q_c2 q_d0 q_d1 q_d2 q_t10 q_t11 q_t12 q_t20 q_t21 q_t22 q_t30 q_t31 q_t32 q_l10 q_l11 q_l12 q_l20 q_l21 q_l22
  obtain ⟨E5, hsz, f_a, f_b, f_c, f_d, f_t1, f_t2, f_t3, f_l1, f_l2⟩ := HH.out
  clear HH
  refine (mlif_any mb _ (s + 31) i (wayR (s + 14)) w5b E5.2 (R5.mono (by omega)) ⟨by show s + 16 < 256; first | exact (by omega) | omega, by show s + 19 < 256; first | exact (by omega) | omega, by show s + 20 < 256; first | exact (by omega) | omega⟩).mono ?_
  rintro e w6 ⟨rfl, k6⟩
  have E6 : MkEnd w w6 mb ((((((L ++ wayL s a b) ++ wayL (s + 7) a c) ++ wayL (s + 14) a d) ++ lifL (s + 21) (wayR s)) ++ lifL (s + 26) (wayR (s + 7))) ++ lifL (s + 31) (wayR (s + 14))) (s + 36) (i) := MkEnd.trans E5 k6
  have R6 : Room ((((((L ++ wayL s a b) ++ wayL (s + 7) a c) ++ wayL (s + 14) a d) ++ lifL (s + 21) (wayR s)) ++ lifL (s + 26) (wayR (s + 7))) ++ lifL (s + 31) (wayR (s + 14))) (s + 36) 14 := Room.app 5 (k := 14) R5 (Nat.le_of_eq rfl)
  replace f_a := At3.kp f_a k6.1
  replace f_b := At3.kp f_b k6.1
  replace f_c := At3.kp f_c k6.1
  replace f_d := At3.kp f_d k6.1
  replace f_t1 := At3.kp f_t1 k6.1
  replace f_t2 := At3.kp f_t2 k6.1
  replace f_t3 := At3.kp f_t3 k6.1
  replace f_l1 := At3.kp f_l1 k6.1
  replace f_l2 := At3.kp f_l2 k6.1
  replace hsz := Nat.le_trans hsz k6.1.size
  clear k6 E5 R5
  have f_l3 : AtT (w6.alloc (.cells #[rV (lifR (s + 31)).x, rV (lifR (s + 31)).y, rV (lifR (s + 31)).w] 88)) w6.heap.size (lifR (s + 31)) := heap_alloc_new w6 _
  replace E6 := E6.al (.cells #[rV (lifR (s + 31)).x, rV (lifR (s + 31)).y, rV (lifR (s + 31)).w] 88)
  replace f_a := At3.al f_a (.cells #[rV (lifR (s + 31)).x, rV (lifR (s + 31)).y, rV (lifR (s + 31)).w] 88)
  replace f_b := At3.al f_b (.cells #[rV (lifR (s + 31)).x, rV (lifR (s + 31)).y, rV (lifR (s + 31)).w] 88)
  replace f_c := At3.al f_c (.cells #[rV (lifR (s + 31)).x, rV (lifR (s + 31)).y, rV (lifR (s + 31)).w] 88)
  replace f_d := At3.al f_d (.cells #[rV (lifR (s + 31)).x, rV (lifR (s + 31)).y, rV (lifR (s + 31)).w] 88)
  replace f_t1 := At3.al f_t1 (.cells #[rV (lifR (s + 31)).x, rV (lifR (s + 31)).y, rV (lifR (s + 31)).w] 88)
  replace f_t2 := At3.al f_t2 (.cells #[rV (lifR (s + 31)).x, rV (lifR (s + 31)).y, rV (lifR (s + 31)).w] 88)
  replace f_t3 := At3.al f_t3 (.cells #[rV (lifR (s + 31)).x, rV (lifR (s + 31)).y, rV (lifR (s + 31)).w] 88)
  replace f_l1 := At3.al f_l1 (.cells #[rV (lifR (s + 31)).x, rV (lifR (s + 31)).y, rV (lifR (s + 31)).w] 88)
  replace f_l2 := At3.al f_l2 (.cells #[rV (lifR (s + 31)).x, rV (lifR (s + 31)).y, rV (lifR (s + 31)).w] 88)
  replace hsz : _ ≤ (w6.alloc (.cells #[rV (lifR (s + 31)).x, rV (lifR (s + 31)).y, rV (lifR (s + 31)).w] 88)).heap.size := Nat.le_trans hsz (by simp)
  obtain ⟨q_a0, q_a1, q_a2⟩ := cells3 f_a
  obtain ⟨q_b0, q_b1, q_b2⟩ := cells3 f_b
  obtain ⟨q_c0, q_c1, q_c2⟩ := cells3 f_c
  obtain ⟨q_d0, q_d1, q_d2⟩ := cells3 f_d
  obtain ⟨q_t10, q_t11, q_t12⟩ := cells3 f_t1
  obtain ⟨q_t20, q_t21, q_t22⟩ := cells3 f_t2
  obtain ⟨q_t30, q_t31, q_t32⟩ := cells3 f_t3
  obtain ⟨q_l10, q_l11, q_l12⟩ := cells3 f_l1
  obtain ⟨q_l20, q_l21, q_l22⟩ := cells3 f_l2
  obtain ⟨q_l30, q_l31, q_l32⟩ := cells3 f_l3
  have HH : Hid _ := And.intro E6 (And.intro hsz (And.intro f_a (And.intro f_b (And.intro f_c (And.intro f_d (And.intro f_t1 (And.intro f_t2 (And.intro f_t3 (And.intro f_l1 (And.intro f_l2 f_l3))))))))))
  clear E6 hsz f_a f_b f_c f_d f_t1 f_t2 f_t3 f_l1 f_l2 f_l3
  go_wp2_with fail
  generalize w6.alloc (.cells #[rV (lifR (s + 31)).x, rV (lifR (s + 31)).y, rV (lifR (s + 31)).w] 88) = w6b at *
  clear q_a0 q_a1 q_a2 q_b0 q_b1 q_b2 q_c0 q_c1 q_c2 q_d0 q_d1 q_d2 q_t10 q_t11 q_t12 q_t20 q_t21 q_t22 q_t30 q_t31 q_t32 q_l10 q_l11 q_l12 q_l20 q_l21 q_l22 q_l30 q_l31 q_l32
  obtain ⟨E6, hsz, f_a, f_b, f_c, f_d, f_t1, f_t2, f_t3, f_l1, f_l2, f_l3⟩ := HH.out
  clear HH
  refine (mvol_any mb _ (s + 36) i (lifR (s + 21)) (lifR (s + 26)) (lifR (s + 31)) w6b E6.2 (R6.mono (by omega)) ⟨by show s + 21 < 256; first | exact (by omega) | omega, by show s + 22 < 256; first | exact (by omega) | omega, by show s + 25 < 256; first | exact (by omega) | omega⟩ ⟨by show s + 26 < 256; first | exact (by omega) | omega, by show s + 27 < 256; first | exact (by omega) | omega, by show s + 30 < 256; first | exact (by omega) | omega⟩ ⟨by show s + 31 < 256; first | exact (by omega) | omega, by show s + 32 < 256; first | exact (by omega) | omega, by show s + 35 < 256; first | exact (by omega) | omega⟩).mono ?_
  rintro e w7 ⟨rfl, k7⟩
  have E7 : MkEnd w w7 mb (((((((L ++ wayL s a b) ++ wayL (s + 7) a c) ++ wayL (s + 14) a d) ++ lifL (s + 21) (wayR s)) ++ lifL (s + 26) (wayR (s + 7))) ++ lifL (s + 31) (wayR (s + 14))) ++ volL (s + 36) (lifR (s + 21)) (lifR (s + 26)) (lifR (s + 31))) (s + 50) (i) := MkEnd.trans E6 k7
  replace f_a := At3.kp f_a k7.1
  replace f_b := At3.kp f_b k7.1
  replace f_c := At3.kp f_c k7.1
  replace f_d := At3.kp f_d k7.1
  replace f_t1 := At3.kp f_t1 k7.1
  replace f_t2 := At3.kp f_t2 k7.1
  replace f_t3 := At3.kp f_t3 k7.1
  replace f_l1 := At3.kp f_l1 k7.1
  replace f_l2 := At3.kp f_l2 k7.1
  replace f_l3 := At3.kp f_l3 k7.1
  replace hsz := Nat.le_trans hsz k7.1.size
  clear k7 E6 R6
  have HE : Hid _ := E7
  clear E7 f_a f_b f_c f_d f_t1 f_t2 f_t3 f_l1 f_l2 f_l3
  go_wp2_with fail
  go_ret
  have hL : (((((((L ++ wayL s a b) ++ wayL (s + 7) a c) ++ wayL (s + 14) a d) ++ lifL (s + 21) (wayR s)) ++ lifL (s + 26) (wayR (s + 7))) ++ lifL (s + 31) (wayR (s + 14))) ++ volL (s + 36) (lifR (s + 21)) (lifR (s + 26)) (lifR (s + 31))) = L ++ rndL s a b c d := by
    simp only [List.append_assoc]
    rfl
  exact ⟨rfl, by rw [← hL]; exact HE.out⟩
end Go.Proofs.YtmnfndpbblpjiaaGreatDoor
