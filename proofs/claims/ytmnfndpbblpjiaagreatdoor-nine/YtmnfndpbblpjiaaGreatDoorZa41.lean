/- The maker's methods over points and lines. -/
import Derived.Test.YtmnfndpbblpjiaaGreatDoorZa21
namespace Go.Proofs.YtmnfndpbblpjiaaGreatDoor
open Go.RowKit Pu
abbrev trV (t : Tr) : Value := .agg #[rV t.x, rV t.y, rV t.w]
abbrev trO (t : Tr) : Obj := .cells #[rV t.x, rV t.y, rV t.w] 88
theorem sz_al (w : World) (o : Obj) : (w.alloc o).heap.size = w.heap.size + 1 := by simp
abbrev trZ : Obj := .cells #[.int .u8 0, .int .u8 0, .int .u8 0] 88
def S8 (t : Tr) : Prop := t.x < 256 ∧ t.y < 256 ∧ t.w < 256
abbrev At3 (w : World) (k : Nat) (x y z : Value) : Prop := w.heap[k]? = some (.cells #[x, y, z] 88 (0, 0))
abbrev AtT (w : World) (k : Nat) (t : Tr) : Prop := At3 w k (rV t.x) (rV t.y) (rV t.w)
theorem At3.kp {w w' : World} {mb k : Nat} {x y z : Value} (h : At3 w k x y z) (hk : Kp mb w w') : At3 w' k x y z := hk.keep h (by decide) (by decide)
theorem At3.md {w w' : World} {k : Nat} {x y z : Value} (h : At3 w k x y z) (hk : Mod (fun _ => False) w w') : At3 w' k x y z := hk.keep h (fun f => f)
theorem At3.al {w : World} {k : Nat} {x y z : Value} (h : At3 w k x y z) (o : Obj) : At3 (w.alloc o) k x y z := h.md ((Mod.refl _ w).alloc o)
theorem MkEnd.al {a b : World} {mb s i : Nat} {L : List Stp} (h : MkEnd a b mb L s i) (o : Obj) : MkEnd a (b.alloc o) mb L s i := ⟨h.1.alloc o, h.2.alloc o⟩
theorem MkEnd.st {a b : World} {mb s i k : Nat} {L : List Stp} {x y z x' y' z' : Value} (h : MkEnd a b mb L s i) (hz : At3 b k x y z) (hk : a.heap.size ≤ k) : MkEnd a (set3 b k x' y' z') mb L s i := by
  refine ⟨set3_mod h.1 k x' y' z' hk, ?_⟩
  obtain ⟨v, hb, hP⟩ := h.2
  have hm := set3_own b k x' y' z'
  refine ⟨v, hm.keep hb (fun e => ?_), owns_mod' hP hm (fun g hg e => ?_)⟩
  · subst e; unfold At3 at hz; rw [hb] at hz; cases hz
  · subst e
    obtain ⟨_, ⟨he, _⟩ | ⟨g1, c1, cur1, he1, _, hb1, _⟩⟩ := hP
    · rw [he] at hg; simp [Value.ownBlock] at hg
    · rw [he1] at hg
      simp [Value.ownBlock] at hg
      subst hg
      unfold At3 at hz
      rw [hb1] at hz; cases hz
set_option maxHeartbeats 1600000 in
theorem mcross_any (mb : Nat) (L : List Stp) (s i : Nat) (a b : Tr) (w : World) (hM : Mkr w mb L s i) (hroom : Room L s 9) (h_a : S8 a) (h_b : S8 b) :
    Calls Tryz.prog 105 #[mP mb, trV a, trV b] w fun e w' => e = .returned (trV (crossR s)) ∧ MkEnd w w' mb (L ++ crossL s a b) (s + 9) (i + 0) := by
  obtain ⟨h_ax, h_ay, h_aw⟩ := h_a
  obtain ⟨h_bx, h_by, h_bw⟩ := h_b
  have r2 := hroom.2
  have E0 : MkEnd w (((((w.alloc (trO a))).alloc (trO b))).alloc (trZ)) mb L s i := (MkEnd.al (MkEnd.al (MkEnd.al (show MkEnd w w mb L s i from ⟨Kp.refl mb w, hM⟩) _) _) _)
  have f_a : AtT (((((w.alloc (trO a))).alloc (trO b))).alloc (trZ)) (w.heap.size) a := by
    have h := heap_alloc_new w (trO a)
    exact (At3.al (At3.al h _) _)
  have f_b : AtT (((((w.alloc (trO a))).alloc (trO b))).alloc (trZ)) (w.heap.size + 1) b := by
    have h := heap_alloc_new (w.alloc (trO a)) (trO b)
    simp only [sz_al] at h
    exact (At3.al h _)
  have f_RES : At3 (((((w.alloc (trO a))).alloc (trO b))).alloc (trZ)) (w.heap.size + 1 + 1) (.int .u8 0) (.int .u8 0) (.int .u8 0) := by
    have h := heap_alloc_new (((w.alloc (trO a))).alloc (trO b)) (trZ)
    simp only [sz_al] at h
    exact h
  have hsz : w.heap.size + 3 ≤ ((((((w.alloc (trO a))).alloc (trO b))).alloc (trZ))).heap.size := by simp only [sz_al]; omega
  go_enter Tryz.func105, Tryz.ntmps105
  go_wp2_with fail
  generalize (((w.alloc (.cells #[rV a.x, rV a.y, rV a.w] 88)).alloc (.cells #[rV b.x, rV b.y, rV b.w] 88)).alloc (.cells #[.int .u8 0, .int .u8 0, .int .u8 0] 88)) = w0 at *
  refine (mpD_any mb _ s i a.y b.w a.w b.y w0 E0.2 (hroom.mono (by omega)) h_ay h_bw h_aw h_by).mono ?_
  rintro e w1 ⟨he, k1⟩
  obtain ⟨v_x, hv⟩ : ∃ x : Nat, x = s + 2 := ⟨_, rfl⟩
  have b_x : v_x < 256 := by omega
  have he2 : e = .returned (rV v_x) := by rw [hv]; exact he
  have Hv_x : Hid (v_x = s + 2) := hv
  clear he hv
  subst he2
  have E1 : MkEnd w w1 mb (L ++ prodD s a.y b.w a.w b.y) (s + 3) (i) := MkEnd.trans E0 k1
  have R1 : Room (L ++ prodD s a.y b.w a.w b.y) (s + 3) 6 := Room.app 3 (k := 6) hroom (Nat.le_of_eq rfl)
  replace f_a := At3.kp f_a k1.1
  replace f_b := At3.kp f_b k1.1
  replace f_RES := At3.kp f_RES k1.1
  replace hsz := Nat.le_trans hsz k1.1.size
  clear k1 E0 hroom
  obtain ⟨q_a0, q_a1, q_a2⟩ := cells3 f_a
  obtain ⟨q_b0, q_b1, q_b2⟩ := cells3 f_b
  have HH : Hid _ := And.intro E1 (And.intro hsz (And.intro f_a (And.intro f_b f_RES)))
  clear E1 hsz f_a f_b f_RES
  go_wp2_with fail
  clear q_a0 q_a1 q_a2 q_b0 q_b1 q_b2
  obtain ⟨E1, hsz, f_a, f_b, f_RES⟩ := HH.out
  clear HH
  refine (mpD_any mb _ (s + 3) i a.w b.x a.x b.w w1 E1.2 (R1.mono (by omega)) h_aw h_bx h_ax h_bw).mono ?_
  rintro e w2 ⟨he, k2⟩
  obtain ⟨v_y, hv⟩ : ∃ x : Nat, x = s + 3 + 2 := ⟨_, rfl⟩
  have b_y : v_y < 256 := by omega
  have he2 : e = .returned (rV v_y) := by rw [hv]; exact he
  have Hv_y : Hid (v_y = s + 3 + 2) := hv
  clear he hv
  subst he2
  have E2 : MkEnd w w2 mb ((L ++ prodD s a.y b.w a.w b.y) ++ prodD (s + 3) a.w b.x a.x b.w) (s + 6) (i) := MkEnd.trans E1 k2
  have R2 : Room ((L ++ prodD s a.y b.w a.w b.y) ++ prodD (s + 3) a.w b.x a.x b.w) (s + 6) 3 := Room.app 3 (k := 3) R1 (Nat.le_of_eq rfl)
  replace f_a := At3.kp f_a k2.1
  replace f_b := At3.kp f_b k2.1
  replace f_RES := At3.kp f_RES k2.1
  replace hsz := Nat.le_trans hsz k2.1.size
  clear k2 E1 R1
  obtain ⟨q_a0, q_a1, q_a2⟩ := cells3 f_a
  obtain ⟨q_b0, q_b1, q_b2⟩ := cells3 f_b
  have HH : Hid _ := And.intro E2 (And.intro hsz (And.intro f_a (And.intro f_b f_RES)))
  clear E2 hsz f_a f_b f_RES
  go_wp2_with fail
  clear q_a0 q_a1 q_a2 q_b0 q_b1 q_b2
  obtain ⟨E2, hsz, f_a, f_b, f_RES⟩ := HH.out
  clear HH
  refine (mpD_any mb _ (s + 6) i a.x b.y a.y b.x w2 E2.2 (R2.mono (by omega)) h_ax h_by h_ay h_bx).mono ?_
  rintro e w3 ⟨he, k3⟩
  obtain ⟨v_w, hv⟩ : ∃ x : Nat, x = s + 6 + 2 := ⟨_, rfl⟩
  have b_w : v_w < 256 := by omega
  have he2 : e = .returned (rV v_w) := by rw [hv]; exact he
  have Hv_w : Hid (v_w = s + 6 + 2) := hv
  clear he hv
  subst he2
  have E3 : MkEnd w w3 mb (((L ++ prodD s a.y b.w a.w b.y) ++ prodD (s + 3) a.w b.x a.x b.w) ++ prodD (s + 6) a.x b.y a.y b.x) (s + 9) (i) := MkEnd.trans E2 k3
  replace f_a := At3.kp f_a k3.1
  replace f_b := At3.kp f_b k3.1
  replace f_RES := At3.kp f_RES k3.1
  replace hsz := Nat.le_trans hsz k3.1.size
  clear k3 E2 R2
  have z0 := fz3 f_RES 0
  have z1 := fz3 f_RES 1
  have z2 := fz3 f_RES 2
  obtain ⟨y0, y1, y2⟩ := cells3 f_RES
  have HC : Hid _ := cells3 (set3_at (x' := rV (v_x)) (y' := rV (v_y)) (z' := rV (v_w)) f_RES)
  have HE : Hid _ := E3.st (x' := rV (v_x)) (y' := rV (v_y)) (z' := rV (v_w)) f_RES (by omega)
  have hlt := lt_of_block f_RES
  clear E3 f_a f_b f_RES
  go_wp2_with fail
  obtain ⟨g0, g1, g2⟩ := HC.out
  unfold set3 at g0 g1 g2
  have hL : (((L ++ prodD s a.y b.w a.w b.y) ++ prodD (s + 3) a.w b.x a.x b.w) ++ prodD (s + 6) a.x b.y a.y b.x) = L ++ crossL s a b := by
    have e_x := Hv_x.out
    have e_y := Hv_y.out
    have e_w := Hv_w.out
    subst e_x e_y e_w
    simp only [List.append_assoc]
    rfl
  have hR : (.agg #[rV (v_x), rV (v_y), rV (v_w)] : Value) = trV (crossR s) := by rw [Hv_x.out, Hv_y.out, Hv_w.out]; rfl
  exact bodyPost_ret (v := .agg #[rV (v_x), rV (v_y), rV (v_w)]) (by simp [results, Tryz.results105, go_sem, g0, g1, g2]) rfl ⟨by rw [hR], by rw [← hL]; exact HE.out⟩
set_option maxHeartbeats 1600000 in
theorem mdot_any (mb : Nat) (L : List Stp) (s i : Nat) (a b : Tr) (w : World) (hM : Mkr w mb L s i) (hroom : Room L s 5) (h_a : S8 a) (h_b : S8 b) :
    Calls Tryz.prog 147 #[mP mb, trV a, trV b] w fun e w' => e = .returned (rV (s + 4)) ∧ MkEnd w w' mb (L ++ dotL s a b) (s + 5) (i + 0) := by
  obtain ⟨h_ax, h_ay, h_aw⟩ := h_a
  obtain ⟨h_bx, h_by, h_bw⟩ := h_b
  have r2 := hroom.2
  have E0 : MkEnd w (((w.alloc (trO a))).alloc (trO b)) mb L s i := (MkEnd.al (MkEnd.al (show MkEnd w w mb L s i from ⟨Kp.refl mb w, hM⟩) _) _)
  have f_a : AtT (((w.alloc (trO a))).alloc (trO b)) (w.heap.size) a := by
    have h := heap_alloc_new w (trO a)
    exact (At3.al h _)
  have f_b : AtT (((w.alloc (trO a))).alloc (trO b)) (w.heap.size + 1) b := by
    have h := heap_alloc_new (w.alloc (trO a)) (trO b)
    simp only [sz_al] at h
    exact h
  have hsz : w.heap.size + 2 ≤ ((((w.alloc (trO a))).alloc (trO b))).heap.size := by simp only [sz_al]; omega
  go_enter Tryz.func147, Tryz.ntmps147
  go_wp2_with fail
  generalize ((w.alloc (.cells #[rV a.x, rV a.y, rV a.w] 88)).alloc (.cells #[rV b.x, rV b.y, rV b.w] 88)) = w0 at *
  refine (mpS_any mb _ s i a.x b.x a.y b.y w0 E0.2 (hroom.mono (by omega)) h_ax h_bx h_ay h_by).mono ?_
  rintro e w1 ⟨he, k1⟩
  obtain ⟨v_xy, hv⟩ : ∃ x : Nat, x = s + 2 := ⟨_, rfl⟩
  have b_xy : v_xy < 256 := by omega
  have he2 : e = .returned (rV v_xy) := by rw [hv]; exact he
  have Hv_xy : Hid (v_xy = s + 2) := hv
  clear he hv
  subst he2
  have E1 : MkEnd w w1 mb (L ++ prodS s a.x b.x a.y b.y) (s + 3) (i) := MkEnd.trans E0 k1
  have R1 : Room (L ++ prodS s a.x b.x a.y b.y) (s + 3) 2 := Room.app 3 (k := 2) hroom (Nat.le_of_eq rfl)
  replace f_a := At3.kp f_a k1.1
  replace f_b := At3.kp f_b k1.1
  replace hsz := Nat.le_trans hsz k1.1.size
  clear k1 E0 hroom
  obtain ⟨q_a0, q_a1, q_a2⟩ := cells3 f_a
  obtain ⟨q_b0, q_b1, q_b2⟩ := cells3 f_b
  have HH : Hid _ := And.intro E1 (And.intro hsz (And.intro f_a f_b))
  clear E1 hsz f_a f_b
  go_wp2_with fail
  clear q_a0 q_a1 q_a2 q_b0 q_b1 q_b2
  obtain ⟨E1, hsz, f_a, f_b⟩ := HH.out
  clear HH
  refine (mpro_any mb _ (s + 3) i a.w b.w w1 E1.2 (R1.mono (by omega)) h_aw h_bw).mono ?_
  rintro e w2 ⟨he, k2⟩
  obtain ⟨v_w, hv⟩ : ∃ x : Nat, x = s + 3 := ⟨_, rfl⟩
  have b_w : v_w < 256 := by omega
  have he2 : e = .returned (rV v_w) := by rw [hv]; exact he
  have Hv_w : Hid (v_w = s + 3) := hv
  clear he hv
  subst he2
  have E2 : MkEnd w w2 mb ((L ++ prodS s a.x b.x a.y b.y) ++ [⟨4, s + 3, a.w, b.w⟩]) (s + 4) (i) := MkEnd.trans E1 k2
  have R2 : Room ((L ++ prodS s a.x b.x a.y b.y) ++ [⟨4, s + 3, a.w, b.w⟩]) (s + 4) 1 := Room.app 1 (k := 1) R1 (Nat.le_of_eq rfl)
  replace f_a := At3.kp f_a k2.1
  replace f_b := At3.kp f_b k2.1
  replace hsz := Nat.le_trans hsz k2.1.size
  clear k2 E1 R1
  obtain ⟨q_a0, q_a1, q_a2⟩ := cells3 f_a
  obtain ⟨q_b0, q_b1, q_b2⟩ := cells3 f_b
  have HH : Hid _ := And.intro E2 (And.intro hsz (And.intro f_a f_b))
  clear E2 hsz f_a f_b
  go_wp2_with fail
  clear q_a0 q_a1 q_a2 q_b0 q_b1 q_b2
  obtain ⟨E2, hsz, f_a, f_b⟩ := HH.out
  clear HH
  refine (msum_any mb _ (s + 4) i v_xy v_w w2 E2.2 (R2.mono (by omega)) b_xy b_w).mono ?_
  rintro e w3 ⟨rfl, k3⟩
  have E3 : MkEnd w w3 mb (((L ++ prodS s a.x b.x a.y b.y) ++ [⟨4, s + 3, a.w, b.w⟩]) ++ [⟨2, s + 4, v_xy, v_w⟩]) (s + 5) (i) := MkEnd.trans E2 k3
  replace f_a := At3.kp f_a k3.1
  replace f_b := At3.kp f_b k3.1
  replace hsz := Nat.le_trans hsz k3.1.size
  clear k3 E2 R2
  have HE : Hid _ := E3
  clear E3 f_a f_b
  go_wp2_with fail
  go_ret
  have hL : (((L ++ prodS s a.x b.x a.y b.y) ++ [⟨4, s + 3, a.w, b.w⟩]) ++ [⟨2, s + 4, v_xy, v_w⟩]) = L ++ dotL s a b := by
    have e_xy := Hv_xy.out
    have e_w := Hv_w.out
    subst e_xy e_w
    simp only [List.append_assoc]
    rfl
  exact ⟨rfl, by rw [← hL]; exact HE.out⟩
set_option maxHeartbeats 1600000 in
theorem mvol_any (mb : Nat) (L : List Stp) (s i : Nat) (a b c : Tr) (w : World) (hM : Mkr w mb L s i) (hroom : Room L s 14) (h_a : S8 a) (h_b : S8 b) (h_c : S8 c) :
    Calls Tryz.prog 94 #[mP mb, trV a, trV b, trV c] w fun e w' => e = .returned (rV (s + 13)) ∧ MkEnd w w' mb (L ++ volL s a b c) (s + 14) (i + 0) := by
  obtain ⟨h_ax, h_ay, h_aw⟩ := h_a
  obtain ⟨h_bx, h_by, h_bw⟩ := h_b
  obtain ⟨h_cx, h_cy, h_cw⟩ := h_c
  have r2 := hroom.2
  have E0 : MkEnd w (((((w.alloc (trO a))).alloc (trO b))).alloc (trO c)) mb L s i := (MkEnd.al (MkEnd.al (MkEnd.al (show MkEnd w w mb L s i from ⟨Kp.refl mb w, hM⟩) _) _) _)
  have f_a : AtT (((((w.alloc (trO a))).alloc (trO b))).alloc (trO c)) (w.heap.size) a := by
    have h := heap_alloc_new w (trO a)
    exact (At3.al (At3.al h _) _)
  have f_b : AtT (((((w.alloc (trO a))).alloc (trO b))).alloc (trO c)) (w.heap.size + 1) b := by
    have h := heap_alloc_new (w.alloc (trO a)) (trO b)
    simp only [sz_al] at h
    exact (At3.al h _)
  have f_c : AtT (((((w.alloc (trO a))).alloc (trO b))).alloc (trO c)) (w.heap.size + 1 + 1) c := by
    have h := heap_alloc_new (((w.alloc (trO a))).alloc (trO b)) (trO c)
    simp only [sz_al] at h
    exact h
  have hsz : w.heap.size + 3 ≤ ((((((w.alloc (trO a))).alloc (trO b))).alloc (trO c))).heap.size := by simp only [sz_al]; omega
  go_enter Tryz.func94, Tryz.ntmps94
  go_wp2_with fail
  generalize (((w.alloc (.cells #[rV a.x, rV a.y, rV a.w] 88)).alloc (.cells #[rV b.x, rV b.y, rV b.w] 88)).alloc (.cells #[rV c.x, rV c.y, rV c.w] 88)) = w0 at *
  refine (mcross_any mb _ s i a b w0 E0.2 (hroom.mono (by omega)) ⟨h_ax, h_ay, h_aw⟩ ⟨h_bx, h_by, h_bw⟩).mono ?_
  rintro e w1 ⟨rfl, k1⟩
  have E1 : MkEnd w w1 mb (L ++ crossL s a b) (s + 9) (i) := MkEnd.trans E0 k1
  have R1 : Room (L ++ crossL s a b) (s + 9) 5 := Room.app 9 (k := 5) hroom (Nat.le_of_eq rfl)
  replace f_a := At3.kp f_a k1.1
  replace f_b := At3.kp f_b k1.1
  replace f_c := At3.kp f_c k1.1
  replace hsz := Nat.le_trans hsz k1.1.size
  clear k1 E0 hroom
  have f_t : AtT (w1.alloc (.cells #[rV (crossR s).x, rV (crossR s).y, rV (crossR s).w] 88)) w1.heap.size (crossR s) := heap_alloc_new w1 _
  replace E1 := E1.al (.cells #[rV (crossR s).x, rV (crossR s).y, rV (crossR s).w] 88)
  replace f_a := At3.al f_a (.cells #[rV (crossR s).x, rV (crossR s).y, rV (crossR s).w] 88)
  replace f_b := At3.al f_b (.cells #[rV (crossR s).x, rV (crossR s).y, rV (crossR s).w] 88)
  replace f_c := At3.al f_c (.cells #[rV (crossR s).x, rV (crossR s).y, rV (crossR s).w] 88)
  replace hsz : _ ≤ (w1.alloc (.cells #[rV (crossR s).x, rV (crossR s).y, rV (crossR s).w] 88)).heap.size := Nat.le_trans hsz (by simp)
  obtain ⟨q_a0, q_a1, q_a2⟩ := cells3 f_a
  obtain ⟨q_b0, q_b1, q_b2⟩ := cells3 f_b
  obtain ⟨q_c0, q_c1, q_c2⟩ := cells3 f_c
  obtain ⟨q_t0, q_t1, q_t2⟩ := cells3 f_t
  have HH : Hid _ := And.intro E1 (And.intro hsz (And.intro f_a (And.intro f_b (And.intro f_c f_t))))
  clear E1 hsz f_a f_b f_c f_t
  go_wp2_with fail
  generalize w1.alloc (.cells #[rV (crossR s).x, rV (crossR s).y, rV (crossR s).w] 88) = w1b at *
  clear q_a0 q_a1 q_a2 q_b0 q_b1 q_b2 q_c0 q_c1 q_c2 q_t0 q_t1 q_t2
  obtain ⟨E1, hsz, f_a, f_b, f_c, f_t⟩ := HH.out
  clear HH
  refine (mdot_any mb _ (s + 9) i (crossR s) c w1b E1.2 (R1.mono (by omega)) ⟨by show s + 2 < 256; first | exact (by omega) | omega, by show s + 5 < 256; first | exact (by omega) | omega, by show s + 8 < 256; first | exact (by omega) | omega⟩ ⟨h_cx, h_cy, h_cw⟩).mono ?_
  rintro e w2 ⟨rfl, k2⟩
  have E2 : MkEnd w w2 mb ((L ++ crossL s a b) ++ dotL (s + 9) (crossR s) c) (s + 14) (i) := MkEnd.trans E1 k2
  replace f_a := At3.kp f_a k2.1
  replace f_b := At3.kp f_b k2.1
  replace f_c := At3.kp f_c k2.1
  replace f_t := At3.kp f_t k2.1
  replace hsz := Nat.le_trans hsz k2.1.size
  clear k2 E1 R1
  have HE : Hid _ := E2
  clear E2 f_a f_b f_c f_t
  go_wp2_with fail
  go_ret
  have hL : ((L ++ crossL s a b) ++ dotL (s + 9) (crossR s) c) = L ++ volL s a b c := by
    simp only [List.append_assoc]
    rfl
  exact ⟨rfl, by rw [← hL]; exact HE.out⟩
end Go.Proofs.YtmnfndpbblpjiaaGreatDoor

/- The maker: given points, the middle, parallels. -/
namespace Go.Proofs.YtmnfndpbblpjiaaGreatDoor
open Go.RowKit Pu
set_option maxHeartbeats 1600000 in
theorem mgiv_any (mb : Nat) (L : List Stp) (s i : Nat) (w : World) (hM : Mkr w mb L s i) (hroom : Room L s 3)  (hin : i < 100) :
    Calls Tryz.prog 98 #[mP mb] w fun e w' => e = .returned (trV (givenR s)) ∧ MkEnd w w' mb (L ++ givenL s i) (s + 3) (i + 2) := by
  have r2 := hroom.2
  have E0 : MkEnd w (w.alloc (trZ)) mb L s i := (MkEnd.al (show MkEnd w w mb L s i from ⟨Kp.refl mb w, hM⟩) _)
  have f_RES : At3 (w.alloc (trZ)) (w.heap.size) (.int .u8 0) (.int .u8 0) (.int .u8 0) := by
    have h := heap_alloc_new w (trZ)
    exact h
  have hsz : w.heap.size + 1 ≤ ((w.alloc (trZ))).heap.size := by simp only [sz_al]; omega
  go_enter Tryz.func98, Tryz.ntmps98
  go_wp2_with fail
  generalize (w.alloc (.cells #[.int .u8 0, .int .u8 0, .int .u8 0] 88)) = w0 at *
  refine (minp_any mb _ s i  w0 E0.2 (hroom.mono (by omega))  (by omega)).mono ?_
  rintro e w1 ⟨he, k1⟩
  obtain ⟨v_x, hv⟩ : ∃ x : Nat, x = s := ⟨_, rfl⟩
  have b_x : v_x < 256 := by omega
  have he2 : e = .returned (rV v_x) := by rw [hv]; exact he
  have Hv_x : Hid (v_x = s) := hv
  clear he hv
  subst he2
  have E1 : MkEnd w w1 mb (L ++ [⟨0, s, i, 0⟩]) (s + 1) (i + 1) := MkEnd.trans E0 k1
  have R1 : Room (L ++ [⟨0, s, i, 0⟩]) (s + 1) 2 := Room.app 1 (k := 2) hroom (Nat.le_of_eq rfl)
  replace f_RES := At3.kp f_RES k1.1
  replace hsz := Nat.le_trans hsz k1.1.size
  clear k1 E0 hroom
  have HH : Hid _ := And.intro E1 (And.intro hsz f_RES)
  clear E1 hsz f_RES
  go_wp2_with fail
  obtain ⟨E1, hsz, f_RES⟩ := HH.out
  clear HH
  refine (minp_any mb _ (s + 1) (i + 1)  w1 E1.2 (R1.mono (by omega))  (by omega)).mono ?_
  rintro e w2 ⟨he, k2⟩
  obtain ⟨v_y, hv⟩ : ∃ x : Nat, x = s + 1 := ⟨_, rfl⟩
  have b_y : v_y < 256 := by omega
  have he2 : e = .returned (rV v_y) := by rw [hv]; exact he
  have Hv_y : Hid (v_y = s + 1) := hv
  clear he hv
  subst he2
  have E2 : MkEnd w w2 mb ((L ++ [⟨0, s, i, 0⟩]) ++ [⟨0, s + 1, i + 1, 0⟩]) (s + 2) (i + 2) := MkEnd.trans E1 k2
  have R2 : Room ((L ++ [⟨0, s, i, 0⟩]) ++ [⟨0, s + 1, i + 1, 0⟩]) (s + 2) 1 := Room.app 1 (k := 1) R1 (Nat.le_of_eq rfl)
  replace f_RES := At3.kp f_RES k2.1
  replace hsz := Nat.le_trans hsz k2.1.size
  clear k2 E1 R1
  have HH : Hid _ := And.intro E2 (And.intro hsz f_RES)
  clear E2 hsz f_RES
  go_wp2_with fail
  obtain ⟨E2, hsz, f_RES⟩ := HH.out
  clear HH
  refine (mcon_any mb _ (s + 2) (i + 2) 1 w2 E2.2 (R2.mono (by omega)) (by omega)).mono ?_
  rintro e w3 ⟨he, k3⟩
  obtain ⟨v_w, hv⟩ : ∃ x : Nat, x = s + 2 := ⟨_, rfl⟩
  have b_w : v_w < 256 := by omega
  have he2 : e = .returned (rV v_w) := by rw [hv]; exact he
  have Hv_w : Hid (v_w = s + 2) := hv
  clear he hv
  subst he2
  have E3 : MkEnd w w3 mb (((L ++ [⟨0, s, i, 0⟩]) ++ [⟨0, s + 1, i + 1, 0⟩]) ++ [⟨1, s + 2, 1, 0⟩]) (s + 3) (i + 2) := MkEnd.trans E2 k3
  replace f_RES := At3.kp f_RES k3.1
  replace hsz := Nat.le_trans hsz k3.1.size
  clear k3 E2 R2
  have z0 := fz3 f_RES 0
  have z1 := fz3 f_RES 1
  have z2 := fz3 f_RES 2
  obtain ⟨y0, y1, y2⟩ := cells3 f_RES
  have HC : Hid _ := cells3 (set3_at (x' := rV (v_x)) (y' := rV (v_y)) (z' := rV (v_w)) f_RES)
  have HE : Hid _ := E3.st (x' := rV (v_x)) (y' := rV (v_y)) (z' := rV (v_w)) f_RES (by omega)
  have hlt := lt_of_block f_RES
  clear E3 f_RES
  go_wp2_with fail
  obtain ⟨g0, g1, g2⟩ := HC.out
  unfold set3 at g0 g1 g2
  have hL : (((L ++ [⟨0, s, i, 0⟩]) ++ [⟨0, s + 1, i + 1, 0⟩]) ++ [⟨1, s + 2, 1, 0⟩]) = L ++ givenL s i := by
    have e_x := Hv_x.out
    have e_y := Hv_y.out
    have e_w := Hv_w.out
    subst e_x e_y e_w
    simp only [List.append_assoc]
    rfl
  have hR : (.agg #[rV (v_x), rV (v_y), rV (v_w)] : Value) = trV (givenR s) := by rw [Hv_x.out, Hv_y.out, Hv_w.out]; rfl
  exact bodyPost_ret (v := .agg #[rV (v_x), rV (v_y), rV (v_w)]) (by simp [results, Tryz.results98, go_sem, g0, g1, g2]) rfl ⟨by rw [hR], by rw [← hL]; exact HE.out⟩
set_option maxHeartbeats 1600000 in
theorem mmid_any (mb : Nat) (L : List Stp) (s i : Nat) (a b : Tr) (w : World) (hM : Mkr w mb L s i) (hroom : Room L s 8) (h_a : S8 a) (h_b : S8 b) :
    Calls Tryz.prog 99 #[mP mb, trV a, trV b] w fun e w' => e = .returned (trV (midR s)) ∧ MkEnd w w' mb (L ++ midL s a b) (s + 8) (i + 0) := by
  obtain ⟨h_ax, h_ay, h_aw⟩ := h_a
  obtain ⟨h_bx, h_by, h_bw⟩ := h_b
  have r2 := hroom.2
  have E0 : MkEnd w (((((w.alloc (trO a))).alloc (trO b))).alloc (trZ)) mb L s i := (MkEnd.al (MkEnd.al (MkEnd.al (show MkEnd w w mb L s i from ⟨Kp.refl mb w, hM⟩) _) _) _)
  have f_a : AtT (((((w.alloc (trO a))).alloc (trO b))).alloc (trZ)) (w.heap.size) a := by
    have h := heap_alloc_new w (trO a)
    exact (At3.al (At3.al h _) _)
  have f_b : AtT (((((w.alloc (trO a))).alloc (trO b))).alloc (trZ)) (w.heap.size + 1) b := by
    have h := heap_alloc_new (w.alloc (trO a)) (trO b)
    simp only [sz_al] at h
    exact (At3.al h _)
  have f_RES : At3 (((((w.alloc (trO a))).alloc (trO b))).alloc (trZ)) (w.heap.size + 1 + 1) (.int .u8 0) (.int .u8 0) (.int .u8 0) := by
    have h := heap_alloc_new (((w.alloc (trO a))).alloc (trO b)) (trZ)
    simp only [sz_al] at h
    exact h
  have hsz : w.heap.size + 3 ≤ ((((((w.alloc (trO a))).alloc (trO b))).alloc (trZ))).heap.size := by simp only [sz_al]; omega
  go_enter Tryz.func99, Tryz.ntmps99
  go_wp2_with fail
  generalize (((w.alloc (.cells #[rV a.x, rV a.y, rV a.w] 88)).alloc (.cells #[rV b.x, rV b.y, rV b.w] 88)).alloc (.cells #[.int .u8 0, .int .u8 0, .int .u8 0] 88)) = w0 at *
  refine (mpS_any mb _ s i a.x b.w b.x a.w w0 E0.2 (hroom.mono (by omega)) h_ax h_bw h_bx h_aw).mono ?_
  rintro e w1 ⟨he, k1⟩
  obtain ⟨v_x, hv⟩ : ∃ x : Nat, x = s + 2 := ⟨_, rfl⟩
  have b_x : v_x < 256 := by omega
  have he2 : e = .returned (rV v_x) := by rw [hv]; exact he
  have Hv_x : Hid (v_x = s + 2) := hv
  clear he hv
  subst he2
  have E1 : MkEnd w w1 mb (L ++ prodS s a.x b.w b.x a.w) (s + 3) (i) := MkEnd.trans E0 k1
  have R1 : Room (L ++ prodS s a.x b.w b.x a.w) (s + 3) 5 := Room.app 3 (k := 5) hroom (Nat.le_of_eq rfl)
  replace f_a := At3.kp f_a k1.1
  replace f_b := At3.kp f_b k1.1
  replace f_RES := At3.kp f_RES k1.1
  replace hsz := Nat.le_trans hsz k1.1.size
  clear k1 E0 hroom
  obtain ⟨q_a0, q_a1, q_a2⟩ := cells3 f_a
  obtain ⟨q_b0, q_b1, q_b2⟩ := cells3 f_b
  have HH : Hid _ := And.intro E1 (And.intro hsz (And.intro f_a (And.intro f_b f_RES)))
  clear E1 hsz f_a f_b f_RES
  go_wp2_with fail
  clear q_a0 q_a1 q_a2 q_b0 q_b1 q_b2
  obtain ⟨E1, hsz, f_a, f_b, f_RES⟩ := HH.out
  clear HH
  refine (mpS_any mb _ (s + 3) i a.y b.w b.y a.w w1 E1.2 (R1.mono (by omega)) h_ay h_bw h_by h_aw).mono ?_
  rintro e w2 ⟨he, k2⟩
  obtain ⟨v_y, hv⟩ : ∃ x : Nat, x = s + 3 + 2 := ⟨_, rfl⟩
  have b_y : v_y < 256 := by omega
  have he2 : e = .returned (rV v_y) := by rw [hv]; exact he
  have Hv_y : Hid (v_y = s + 3 + 2) := hv
  clear he hv
  subst he2
  have E2 : MkEnd w w2 mb ((L ++ prodS s a.x b.w b.x a.w) ++ prodS (s + 3) a.y b.w b.y a.w) (s + 6) (i) := MkEnd.trans E1 k2
  have R2 : Room ((L ++ prodS s a.x b.w b.x a.w) ++ prodS (s + 3) a.y b.w b.y a.w) (s + 6) 2 := Room.app 3 (k := 2) R1 (Nat.le_of_eq rfl)
  replace f_a := At3.kp f_a k2.1
  replace f_b := At3.kp f_b k2.1
  replace f_RES := At3.kp f_RES k2.1
  replace hsz := Nat.le_trans hsz k2.1.size
  clear k2 E1 R1
  obtain ⟨q_a0, q_a1, q_a2⟩ := cells3 f_a
  obtain ⟨q_b0, q_b1, q_b2⟩ := cells3 f_b
  have HH : Hid _ := And.intro E2 (And.intro hsz (And.intro f_a (And.intro f_b f_RES)))
  clear E2 hsz f_a f_b f_RES
  go_wp2_with fail
  clear q_a0 q_a1 q_a2 q_b0 q_b1 q_b2
  obtain ⟨E2, hsz, f_a, f_b, f_RES⟩ := HH.out
  clear HH
  refine (mpro_any mb _ (s + 6) i a.w b.w w2 E2.2 (R2.mono (by omega)) h_aw h_bw).mono ?_
  rintro e w3 ⟨he, k3⟩
  obtain ⟨v_h, hv⟩ : ∃ x : Nat, x = s + 6 := ⟨_, rfl⟩
  have b_h : v_h < 256 := by omega
  have he2 : e = .returned (rV v_h) := by rw [hv]; exact he
  have Hv_h : Hid (v_h = s + 6) := hv
  clear he hv
  subst he2
  have E3 : MkEnd w w3 mb (((L ++ prodS s a.x b.w b.x a.w) ++ prodS (s + 3) a.y b.w b.y a.w) ++ [⟨4, s + 6, a.w, b.w⟩]) (s + 7) (i) := MkEnd.trans E2 k3
  have R3 : Room (((L ++ prodS s a.x b.w b.x a.w) ++ prodS (s + 3) a.y b.w b.y a.w) ++ [⟨4, s + 6, a.w, b.w⟩]) (s + 7) 1 := Room.app 1 (k := 1) R2 (Nat.le_of_eq rfl)
  replace f_a := At3.kp f_a k3.1
  replace f_b := At3.kp f_b k3.1
  replace f_RES := At3.kp f_RES k3.1
  replace hsz := Nat.le_trans hsz k3.1.size
  clear k3 E2 R2
  obtain ⟨q_a0, q_a1, q_a2⟩ := cells3 f_a
  obtain ⟨q_b0, q_b1, q_b2⟩ := cells3 f_b
  have HH : Hid _ := And.intro E3 (And.intro hsz (And.intro f_a (And.intro f_b f_RES)))
  clear E3 hsz f_a f_b f_RES
  go_wp2_with fail
  clear q_a0 q_a1 q_a2 q_b0 q_b1 q_b2
  obtain ⟨E3, hsz, f_a, f_b, f_RES⟩ := HH.out
  clear HH
  refine (msum_any mb _ (s + 7) i v_h v_h w3 E3.2 (R3.mono (by omega)) b_h b_h).mono ?_
  rintro e w4 ⟨he, k4⟩
  obtain ⟨v_w, hv⟩ : ∃ x : Nat, x = s + 7 := ⟨_, rfl⟩
  have b_w : v_w < 256 := by omega
  have he2 : e = .returned (rV v_w) := by rw [hv]; exact he
  have Hv_w : Hid (v_w = s + 7) := hv
  clear he hv
  subst he2
  have E4 : MkEnd w w4 mb ((((L ++ prodS s a.x b.w b.x a.w) ++ prodS (s + 3) a.y b.w b.y a.w) ++ [⟨4, s + 6, a.w, b.w⟩]) ++ [⟨2, s + 7, v_h, v_h⟩]) (s + 8) (i) := MkEnd.trans E3 k4
  replace f_a := At3.kp f_a k4.1
  replace f_b := At3.kp f_b k4.1
  replace f_RES := At3.kp f_RES k4.1
  replace hsz := Nat.le_trans hsz k4.1.size
  clear k4 E3 R3
  have z0 := fz3 f_RES 0
  have z1 := fz3 f_RES 1
  have z2 := fz3 f_RES 2
  obtain ⟨y0, y1, y2⟩ := cells3 f_RES
  have HC : Hid _ := cells3 (set3_at (x' := rV (v_x)) (y' := rV (v_y)) (z' := rV (v_w)) f_RES)
  have HE : Hid _ := E4.st (x' := rV (v_x)) (y' := rV (v_y)) (z' := rV (v_w)) f_RES (by omega)
  have hlt := lt_of_block f_RES
  clear E4 f_a f_b f_RES
  go_wp2_with fail
  obtain ⟨g0, g1, g2⟩ := HC.out
  unfold set3 at g0 g1 g2
  have hL : ((((L ++ prodS s a.x b.w b.x a.w) ++ prodS (s + 3) a.y b.w b.y a.w) ++ [⟨4, s + 6, a.w, b.w⟩]) ++ [⟨2, s + 7, v_h, v_h⟩]) = L ++ midL s a b := by
    have e_x := Hv_x.out
    have e_y := Hv_y.out
    have e_h := Hv_h.out
    have e_w := Hv_w.out
    subst e_x e_y e_h e_w
    simp only [List.append_assoc]
    rfl
  have hR : (.agg #[rV (v_x), rV (v_y), rV (v_w)] : Value) = trV (midR s) := by rw [Hv_x.out, Hv_y.out, Hv_w.out]; rfl
  exact bodyPost_ret (v := .agg #[rV (v_x), rV (v_y), rV (v_w)]) (by simp [results, Tryz.results99, go_sem, g0, g1, g2]) rfl ⟨by rw [hR], by rw [← hL]; exact HE.out⟩
set_option maxHeartbeats 1600000 in
theorem mpar_any (mb : Nat) (L : List Stp) (s i : Nat) (p l : Tr) (w : World) (hM : Mkr w mb L s i) (hroom : Room L s 7) (h_p : S8 p) (h_l : S8 l) :
    Calls Tryz.prog 100 #[mP mb, trV p, trV l] w fun e w' => e = .returned (trV (parR s)) ∧ MkEnd w w' mb (L ++ parL s p l) (s + 7) (i + 0) := by
  obtain ⟨h_px, h_py, h_pw⟩ := h_p
  obtain ⟨h_lx, h_ly, h_lw⟩ := h_l
  have r2 := hroom.2
  have E0 : MkEnd w (((((w.alloc (trO p))).alloc (trO l))).alloc (trZ)) mb L s i := (MkEnd.al (MkEnd.al (MkEnd.al (show MkEnd w w mb L s i from ⟨Kp.refl mb w, hM⟩) _) _) _)
  have f_p : AtT (((((w.alloc (trO p))).alloc (trO l))).alloc (trZ)) (w.heap.size) p := by
    have h := heap_alloc_new w (trO p)
    exact (At3.al (At3.al h _) _)
  have f_l : AtT (((((w.alloc (trO p))).alloc (trO l))).alloc (trZ)) (w.heap.size + 1) l := by
    have h := heap_alloc_new (w.alloc (trO p)) (trO l)
    simp only [sz_al] at h
    exact (At3.al h _)
  have f_RES : At3 (((((w.alloc (trO p))).alloc (trO l))).alloc (trZ)) (w.heap.size + 1 + 1) (.int .u8 0) (.int .u8 0) (.int .u8 0) := by
    have h := heap_alloc_new (((w.alloc (trO p))).alloc (trO l)) (trZ)
    simp only [sz_al] at h
    exact h
  have hsz : w.heap.size + 3 ≤ ((((((w.alloc (trO p))).alloc (trO l))).alloc (trZ))).heap.size := by simp only [sz_al]; omega
  go_enter Tryz.func100, Tryz.ntmps100
  go_wp2_with fail
  generalize (((w.alloc (.cells #[rV p.x, rV p.y, rV p.w] 88)).alloc (.cells #[rV l.x, rV l.y, rV l.w] 88)).alloc (.cells #[.int .u8 0, .int .u8 0, .int .u8 0] 88)) = w0 at *
  refine (mpro_any mb _ s i l.x p.w w0 E0.2 (hroom.mono (by omega)) h_lx h_pw).mono ?_
  rintro e w1 ⟨he, k1⟩
  obtain ⟨v_x, hv⟩ : ∃ x : Nat, x = s := ⟨_, rfl⟩
  have b_x : v_x < 256 := by omega
  have he2 : e = .returned (rV v_x) := by rw [hv]; exact he
  have Hv_x : Hid (v_x = s) := hv
  clear he hv
  subst he2
  have E1 : MkEnd w w1 mb (L ++ [⟨4, s, l.x, p.w⟩]) (s + 1) (i) := MkEnd.trans E0 k1
  have R1 : Room (L ++ [⟨4, s, l.x, p.w⟩]) (s + 1) 6 := Room.app 1 (k := 6) hroom (Nat.le_of_eq rfl)
  replace f_p := At3.kp f_p k1.1
  replace f_l := At3.kp f_l k1.1
  replace f_RES := At3.kp f_RES k1.1
  replace hsz := Nat.le_trans hsz k1.1.size
  clear k1 E0 hroom
  obtain ⟨q_p0, q_p1, q_p2⟩ := cells3 f_p
  obtain ⟨q_l0, q_l1, q_l2⟩ := cells3 f_l
  have HH : Hid _ := And.intro E1 (And.intro hsz (And.intro f_p (And.intro f_l f_RES)))
  clear E1 hsz f_p f_l f_RES
  go_wp2_with fail
  clear q_p0 q_p1 q_p2 q_l0 q_l1 q_l2
  obtain ⟨E1, hsz, f_p, f_l, f_RES⟩ := HH.out
  clear HH
  refine (mpro_any mb _ (s + 1) i l.y p.w w1 E1.2 (R1.mono (by omega)) h_ly h_pw).mono ?_
  rintro e w2 ⟨he, k2⟩
  obtain ⟨v_y, hv⟩ : ∃ x : Nat, x = s + 1 := ⟨_, rfl⟩
  have b_y : v_y < 256 := by omega
  have he2 : e = .returned (rV v_y) := by rw [hv]; exact he
  have Hv_y : Hid (v_y = s + 1) := hv
  clear he hv
  subst he2
  have E2 : MkEnd w w2 mb ((L ++ [⟨4, s, l.x, p.w⟩]) ++ [⟨4, s + 1, l.y, p.w⟩]) (s + 2) (i) := MkEnd.trans E1 k2
  have R2 : Room ((L ++ [⟨4, s, l.x, p.w⟩]) ++ [⟨4, s + 1, l.y, p.w⟩]) (s + 2) 5 := Room.app 1 (k := 5) R1 (Nat.le_of_eq rfl)
  replace f_p := At3.kp f_p k2.1
  replace f_l := At3.kp f_l k2.1
  replace f_RES := At3.kp f_RES k2.1
  replace hsz := Nat.le_trans hsz k2.1.size
  clear k2 E1 R1
  obtain ⟨q_p0, q_p1, q_p2⟩ := cells3 f_p
  obtain ⟨q_l0, q_l1, q_l2⟩ := cells3 f_l
  have HH : Hid _ := And.intro E2 (And.intro hsz (And.intro f_p (And.intro f_l f_RES)))
  clear E2 hsz f_p f_l f_RES
  go_wp2_with fail
  clear q_p0 q_p1 q_p2 q_l0 q_l1 q_l2
  obtain ⟨E2, hsz, f_p, f_l, f_RES⟩ := HH.out
  clear HH
  refine (mpS_any mb _ (s + 2) i l.x p.x l.y p.y w2 E2.2 (R2.mono (by omega)) h_lx h_px h_ly h_py).mono ?_
  rintro e w3 ⟨he, k3⟩
  obtain ⟨v_h, hv⟩ : ∃ x : Nat, x = s + 2 + 2 := ⟨_, rfl⟩
  have b_h : v_h < 256 := by omega
  have he2 : e = .returned (rV v_h) := by rw [hv]; exact he
  have Hv_h : Hid (v_h = s + 2 + 2) := hv
  clear he hv
  subst he2
  have E3 : MkEnd w w3 mb (((L ++ [⟨4, s, l.x, p.w⟩]) ++ [⟨4, s + 1, l.y, p.w⟩]) ++ prodS (s + 2) l.x p.x l.y p.y) (s + 5) (i) := MkEnd.trans E2 k3
  have R3 : Room (((L ++ [⟨4, s, l.x, p.w⟩]) ++ [⟨4, s + 1, l.y, p.w⟩]) ++ prodS (s + 2) l.x p.x l.y p.y) (s + 5) 2 := Room.app 3 (k := 2) R2 (Nat.le_of_eq rfl)
  replace f_p := At3.kp f_p k3.1
  replace f_l := At3.kp f_l k3.1
  replace f_RES := At3.kp f_RES k3.1
  replace hsz := Nat.le_trans hsz k3.1.size
  clear k3 E2 R2
  obtain ⟨q_p0, q_p1, q_p2⟩ := cells3 f_p
  obtain ⟨q_l0, q_l1, q_l2⟩ := cells3 f_l
  have HH : Hid _ := And.intro E3 (And.intro hsz (And.intro f_p (And.intro f_l f_RES)))
  clear E3 hsz f_p f_l f_RES
  go_wp2_with fail
  clear q_p0 q_p1 q_p2 q_l0 q_l1 q_l2
  obtain ⟨E3, hsz, f_p, f_l, f_RES⟩ := HH.out
  clear HH
  refine (mneg_any mb _ (s + 5) i v_h w3 E3.2 (R3.mono (by omega)) b_h).mono ?_
  rintro e w4 ⟨he, k4⟩
  obtain ⟨v_w, hv⟩ : ∃ x : Nat, x = s + 5 + 1 := ⟨_, rfl⟩
  have b_w : v_w < 256 := by omega
  have he2 : e = .returned (rV v_w) := by rw [hv]; exact he
  have Hv_w : Hid (v_w = s + 5 + 1) := hv
  clear he hv
  subst he2
  have E4 : MkEnd w w4 mb ((((L ++ [⟨4, s, l.x, p.w⟩]) ++ [⟨4, s + 1, l.y, p.w⟩]) ++ prodS (s + 2) l.x p.x l.y p.y) ++ negL (s + 5) v_h) (s + 7) (i) := MkEnd.trans E3 k4
  replace f_p := At3.kp f_p k4.1
  replace f_l := At3.kp f_l k4.1
  replace f_RES := At3.kp f_RES k4.1
  replace hsz := Nat.le_trans hsz k4.1.size
  clear k4 E3 R3
  have z0 := fz3 f_RES 0
  have z1 := fz3 f_RES 1
  have z2 := fz3 f_RES 2
  obtain ⟨y0, y1, y2⟩ := cells3 f_RES
  have HC : Hid _ := cells3 (set3_at (x' := rV (v_x)) (y' := rV (v_y)) (z' := rV (v_w)) f_RES)
  have HE : Hid _ := E4.st (x' := rV (v_x)) (y' := rV (v_y)) (z' := rV (v_w)) f_RES (by omega)
  have hlt := lt_of_block f_RES
  clear E4 f_p f_l f_RES
  go_wp2_with fail
  obtain ⟨g0, g1, g2⟩ := HC.out
  unfold set3 at g0 g1 g2
  have hL : ((((L ++ [⟨4, s, l.x, p.w⟩]) ++ [⟨4, s + 1, l.y, p.w⟩]) ++ prodS (s + 2) l.x p.x l.y p.y) ++ negL (s + 5) v_h) = L ++ parL s p l := by
    have e_x := Hv_x.out
    have e_y := Hv_y.out
    have e_h := Hv_h.out
    have e_w := Hv_w.out
    subst e_x e_y e_h e_w
    simp only [List.append_assoc]
    rfl
  have hR : (.agg #[rV (v_x), rV (v_y), rV (v_w)] : Value) = trV (parR s) := by rw [Hv_x.out, Hv_y.out, Hv_w.out]; rfl
  exact bodyPost_ret (v := .agg #[rV (v_x), rV (v_y), rV (v_w)]) (by simp [results, Tryz.results100, go_sem, g0, g1, g2]) rfl ⟨by rw [hR], by rw [← hL]; exact HE.out⟩
end Go.Proofs.YtmnfndpbblpjiaaGreatDoor

/- The maker: ways, lifted points, uprights. -/
namespace Go.Proofs.YtmnfndpbblpjiaaGreatDoor
open Go.RowKit Pu
set_option maxHeartbeats 1600000 in
theorem mway_any (mb : Nat) (L : List Stp) (s i : Nat) (f t : Tr) (w : World) (hM : Mkr w mb L s i) (hroom : Room L s 7) (h_f : S8 f) (h_t : S8 t) :
    Calls Tryz.prog 148 #[mP mb, trV f, trV t] w fun e w' => e = .returned (trV (wayR s)) ∧ MkEnd w w' mb (L ++ wayL s f t) (s + 7) (i + 0) := by
  obtain ⟨h_fx, h_fy, h_fw⟩ := h_f
  obtain ⟨h_tx, h_ty, h_tw⟩ := h_t
  have r2 := hroom.2
  have E0 : MkEnd w (((((w.alloc (trO f))).alloc (trO t))).alloc (trZ)) mb L s i := (MkEnd.al (MkEnd.al (MkEnd.al (show MkEnd w w mb L s i from ⟨Kp.refl mb w, hM⟩) _) _) _)
  have f_f : AtT (((((w.alloc (trO f))).alloc (trO t))).alloc (trZ)) (w.heap.size) f := by
    have h := heap_alloc_new w (trO f)
    exact (At3.al (At3.al h _) _)
  have f_t : AtT (((((w.alloc (trO f))).alloc (trO t))).alloc (trZ)) (w.heap.size + 1) t := by
    have h := heap_alloc_new (w.alloc (trO f)) (trO t)
    simp only [sz_al] at h
    exact (At3.al h _)
  have f_RES : At3 (((((w.alloc (trO f))).alloc (trO t))).alloc (trZ)) (w.heap.size + 1 + 1) (.int .u8 0) (.int .u8 0) (.int .u8 0) := by
    have h := heap_alloc_new (((w.alloc (trO f))).alloc (trO t)) (trZ)
    simp only [sz_al] at h
    exact h
  have hsz : w.heap.size + 3 ≤ ((((((w.alloc (trO f))).alloc (trO t))).alloc (trZ))).heap.size := by simp only [sz_al]; omega
  go_enter Tryz.func148, Tryz.ntmps148
  go_wp2_with fail
  generalize (((w.alloc (.cells #[rV f.x, rV f.y, rV f.w] 88)).alloc (.cells #[rV t.x, rV t.y, rV t.w] 88)).alloc (.cells #[.int .u8 0, .int .u8 0, .int .u8 0] 88)) = w0 at *
  refine (mpD_any mb _ s i t.x f.w f.x t.w w0 E0.2 (hroom.mono (by omega)) h_tx h_fw h_fx h_tw).mono ?_
  rintro e w1 ⟨he, k1⟩
  obtain ⟨v_x, hv⟩ : ∃ x : Nat, x = s + 2 := ⟨_, rfl⟩
  have b_x : v_x < 256 := by omega
  have he2 : e = .returned (rV v_x) := by rw [hv]; exact he
  have Hv_x : Hid (v_x = s + 2) := hv
  clear he hv
  subst he2
  have E1 : MkEnd w w1 mb (L ++ prodD s t.x f.w f.x t.w) (s + 3) (i) := MkEnd.trans E0 k1
  have R1 : Room (L ++ prodD s t.x f.w f.x t.w) (s + 3) 4 := Room.app 3 (k := 4) hroom (Nat.le_of_eq rfl)
  replace f_f := At3.kp f_f k1.1
  replace f_t := At3.kp f_t k1.1
  replace f_RES := At3.kp f_RES k1.1
  replace hsz := Nat.le_trans hsz k1.1.size
  clear k1 E0 hroom
  obtain ⟨q_f0, q_f1, q_f2⟩ := cells3 f_f
  obtain ⟨q_t0, q_t1, q_t2⟩ := cells3 f_t
  have HH : Hid _ := And.intro E1 (And.intro hsz (And.intro f_f (And.intro f_t f_RES)))
  clear E1 hsz f_f f_t f_RES
  go_wp2_with fail
  clear q_f0 q_f1 q_f2 q_t0 q_t1 q_t2
  obtain ⟨E1, hsz, f_f, f_t, f_RES⟩ := HH.out
  clear HH
  refine (mpD_any mb _ (s + 3) i t.y f.w f.y t.w w1 E1.2 (R1.mono (by omega)) h_ty h_fw h_fy h_tw).mono ?_
  rintro e w2 ⟨he, k2⟩
  obtain ⟨v_y, hv⟩ : ∃ x : Nat, x = s + 3 + 2 := ⟨_, rfl⟩
  have b_y : v_y < 256 := by omega
  have he2 : e = .returned (rV v_y) := by rw [hv]; exact he
  have Hv_y : Hid (v_y = s + 3 + 2) := hv
  clear he hv
  subst he2
  have E2 : MkEnd w w2 mb ((L ++ prodD s t.x f.w f.x t.w) ++ prodD (s + 3) t.y f.w f.y t.w) (s + 6) (i) := MkEnd.trans E1 k2
  have R2 : Room ((L ++ prodD s t.x f.w f.x t.w) ++ prodD (s + 3) t.y f.w f.y t.w) (s + 6) 1 := Room.app 3 (k := 1) R1 (Nat.le_of_eq rfl)
  replace f_f := At3.kp f_f k2.1
  replace f_t := At3.kp f_t k2.1
  replace f_RES := At3.kp f_RES k2.1
  replace hsz := Nat.le_trans hsz k2.1.size
  clear k2 E1 R1
  obtain ⟨q_f0, q_f1, q_f2⟩ := cells3 f_f
  obtain ⟨q_t0, q_t1, q_t2⟩ := cells3 f_t
  have HH : Hid _ := And.intro E2 (And.intro hsz (And.intro f_f (And.intro f_t f_RES)))
  clear E2 hsz f_f f_t f_RES
  go_wp2_with fail
  clear q_f0 q_f1 q_f2 q_t0 q_t1 q_t2
  obtain ⟨E2, hsz, f_f, f_t, f_RES⟩ := HH.out
  clear HH
  refine (mpro_any mb _ (s + 6) i f.w t.w w2 E2.2 (R2.mono (by omega)) h_fw h_tw).mono ?_
  rintro e w3 ⟨he, k3⟩
  obtain ⟨v_w, hv⟩ : ∃ x : Nat, x = s + 6 := ⟨_, rfl⟩
  have b_w : v_w < 256 := by omega
  have he2 : e = .returned (rV v_w) := by rw [hv]; exact he
  have Hv_w : Hid (v_w = s + 6) := hv
  clear he hv
  subst he2
  have E3 : MkEnd w w3 mb (((L ++ prodD s t.x f.w f.x t.w) ++ prodD (s + 3) t.y f.w f.y t.w) ++ [⟨4, s + 6, f.w, t.w⟩]) (s + 7) (i) := MkEnd.trans E2 k3
  replace f_f := At3.kp f_f k3.1
  replace f_t := At3.kp f_t k3.1
  replace f_RES := At3.kp f_RES k3.1
  replace hsz := Nat.le_trans hsz k3.1.size
  clear k3 E2 R2
  have z0 := fz3 f_RES 0
  have z1 := fz3 f_RES 1
  have z2 := fz3 f_RES 2
  obtain ⟨y0, y1, y2⟩ := cells3 f_RES
  have HC : Hid _ := cells3 (set3_at (x' := rV (v_x)) (y' := rV (v_y)) (z' := rV (v_w)) f_RES)
  have HE : Hid _ := E3.st (x' := rV (v_x)) (y' := rV (v_y)) (z' := rV (v_w)) f_RES (by omega)
  have hlt := lt_of_block f_RES
  clear E3 f_f f_t f_RES
  go_wp2_with fail
  obtain ⟨g0, g1, g2⟩ := HC.out
  unfold set3 at g0 g1 g2
  have hL : (((L ++ prodD s t.x f.w f.x t.w) ++ prodD (s + 3) t.y f.w f.y t.w) ++ [⟨4, s + 6, f.w, t.w⟩]) = L ++ wayL s f t := by
    have e_x := Hv_x.out
    have e_y := Hv_y.out
    have e_w := Hv_w.out
    subst e_x e_y e_w
    simp only [List.append_assoc]
    rfl
  have hR : (.agg #[rV (v_x), rV (v_y), rV (v_w)] : Value) = trV (wayR s) := by rw [Hv_x.out, Hv_y.out, Hv_w.out]; rfl
  exact bodyPost_ret (v := .agg #[rV (v_x), rV (v_y), rV (v_w)]) (by simp [results, Tryz.results148, go_sem, g0, g1, g2]) rfl ⟨by rw [hR], by rw [← hL]; exact HE.out⟩
set_option maxHeartbeats 1600000 in
theorem mlif_any (mb : Nat) (L : List Stp) (s i : Nat) (p : Tr) (w : World) (hM : Mkr w mb L s i) (hroom : Room L s 5) (h_p : S8 p) :
    Calls Tryz.prog 179 #[mP mb, trV p] w fun e w' => e = .returned (trV (lifR s)) ∧ MkEnd w w' mb (L ++ lifL s p) (s + 5) (i + 0) := by
  obtain ⟨h_px, h_py, h_pw⟩ := h_p
  have r2 := hroom.2
  have E0 : MkEnd w (((w.alloc (trO p))).alloc (trZ)) mb L s i := (MkEnd.al (MkEnd.al (show MkEnd w w mb L s i from ⟨Kp.refl mb w, hM⟩) _) _)
  have f_p : AtT (((w.alloc (trO p))).alloc (trZ)) (w.heap.size) p := by
    have h := heap_alloc_new w (trO p)
    exact (At3.al h _)
  have f_RES : At3 (((w.alloc (trO p))).alloc (trZ)) (w.heap.size + 1) (.int .u8 0) (.int .u8 0) (.int .u8 0) := by
    have h := heap_alloc_new (w.alloc (trO p)) (trZ)
    simp only [sz_al] at h
    exact h
  have hsz : w.heap.size + 2 ≤ ((((w.alloc (trO p))).alloc (trZ))).heap.size := by simp only [sz_al]; omega
  go_enter Tryz.func179, Tryz.ntmps179
  go_wp2_with fail
  generalize ((w.alloc (.cells #[rV p.x, rV p.y, rV p.w] 88)).alloc (.cells #[.int .u8 0, .int .u8 0, .int .u8 0] 88)) = w0 at *
  refine (mpro_any mb _ s i p.x p.w w0 E0.2 (hroom.mono (by omega)) h_px h_pw).mono ?_
  rintro e w1 ⟨he, k1⟩
  obtain ⟨v_x, hv⟩ : ∃ x : Nat, x = s := ⟨_, rfl⟩
  have b_x : v_x < 256 := by omega
  have he2 : e = .returned (rV v_x) := by rw [hv]; exact he
  have Hv_x : Hid (v_x = s) := hv
  clear he hv
  subst he2
  have E1 : MkEnd w w1 mb (L ++ [⟨4, s, p.x, p.w⟩]) (s + 1) (i) := MkEnd.trans E0 k1
  have R1 : Room (L ++ [⟨4, s, p.x, p.w⟩]) (s + 1) 4 := Room.app 1 (k := 4) hroom (Nat.le_of_eq rfl)
  replace f_p := At3.kp f_p k1.1
  replace f_RES := At3.kp f_RES k1.1
  replace hsz := Nat.le_trans hsz k1.1.size
  clear k1 E0 hroom
  obtain ⟨q_p0, q_p1, q_p2⟩ := cells3 f_p
  have HH : Hid _ := And.intro E1 (And.intro hsz (And.intro f_p f_RES))
  clear E1 hsz f_p f_RES
  go_wp2_with fail
  clear q_p0 q_p1 q_p2
  obtain ⟨E1, hsz, f_p, f_RES⟩ := HH.out
  clear HH
  refine (mpro_any mb _ (s + 1) i p.y p.w w1 E1.2 (R1.mono (by omega)) h_py h_pw).mono ?_
  rintro e w2 ⟨he, k2⟩
  obtain ⟨v_y, hv⟩ : ∃ x : Nat, x = s + 1 := ⟨_, rfl⟩
  have b_y : v_y < 256 := by omega
  have he2 : e = .returned (rV v_y) := by rw [hv]; exact he
  have Hv_y : Hid (v_y = s + 1) := hv
  clear he hv
  subst he2
  have E2 : MkEnd w w2 mb ((L ++ [⟨4, s, p.x, p.w⟩]) ++ [⟨4, s + 1, p.y, p.w⟩]) (s + 2) (i) := MkEnd.trans E1 k2
  have R2 : Room ((L ++ [⟨4, s, p.x, p.w⟩]) ++ [⟨4, s + 1, p.y, p.w⟩]) (s + 2) 3 := Room.app 1 (k := 3) R1 (Nat.le_of_eq rfl)
  replace f_p := At3.kp f_p k2.1
  replace f_RES := At3.kp f_RES k2.1
  replace hsz := Nat.le_trans hsz k2.1.size
  clear k2 E1 R1
  obtain ⟨q_p0, q_p1, q_p2⟩ := cells3 f_p
  have HH : Hid _ := And.intro E2 (And.intro hsz (And.intro f_p f_RES))
  clear E2 hsz f_p f_RES
  go_wp2_with fail
  clear q_p0 q_p1 q_p2
  obtain ⟨E2, hsz, f_p, f_RES⟩ := HH.out
  clear HH
  refine (mpS_any mb _ (s + 2) i p.x p.x p.y p.y w2 E2.2 (R2.mono (by omega)) h_px h_px h_py h_py).mono ?_
  rintro e w3 ⟨he, k3⟩
  obtain ⟨v_w, hv⟩ : ∃ x : Nat, x = s + 2 + 2 := ⟨_, rfl⟩
  have b_w : v_w < 256 := by omega
  have he2 : e = .returned (rV v_w) := by rw [hv]; exact he
  have Hv_w : Hid (v_w = s + 2 + 2) := hv
  clear he hv
  subst he2
  have E3 : MkEnd w w3 mb (((L ++ [⟨4, s, p.x, p.w⟩]) ++ [⟨4, s + 1, p.y, p.w⟩]) ++ prodS (s + 2) p.x p.x p.y p.y) (s + 5) (i) := MkEnd.trans E2 k3
  replace f_p := At3.kp f_p k3.1
  replace f_RES := At3.kp f_RES k3.1
  replace hsz := Nat.le_trans hsz k3.1.size
  clear k3 E2 R2
  have z0 := fz3 f_RES 0
  have z1 := fz3 f_RES 1
  have z2 := fz3 f_RES 2
  obtain ⟨y0, y1, y2⟩ := cells3 f_RES
  have HC : Hid _ := cells3 (set3_at (x' := rV (v_x)) (y' := rV (v_y)) (z' := rV (v_w)) f_RES)
  have HE : Hid _ := E3.st (x' := rV (v_x)) (y' := rV (v_y)) (z' := rV (v_w)) f_RES (by omega)
  have hlt := lt_of_block f_RES
  clear E3 f_p f_RES
  go_wp2_with fail
  obtain ⟨g0, g1, g2⟩ := HC.out
  unfold set3 at g0 g1 g2
  have hL : (((L ++ [⟨4, s, p.x, p.w⟩]) ++ [⟨4, s + 1, p.y, p.w⟩]) ++ prodS (s + 2) p.x p.x p.y p.y) = L ++ lifL s p := by
    have e_x := Hv_x.out
    have e_y := Hv_y.out
    have e_w := Hv_w.out
    subst e_x e_y e_w
    simp only [List.append_assoc]
    rfl
  have hR : (.agg #[rV (v_x), rV (v_y), rV (v_w)] : Value) = trV (lifR s) := by rw [Hv_x.out, Hv_y.out, Hv_w.out]; rfl
  exact bodyPost_ret (v := .agg #[rV (v_x), rV (v_y), rV (v_w)]) (by simp [results, Tryz.results179, go_sem, g0, g1, g2]) rfl ⟨by rw [hR], by rw [← hL]; exact HE.out⟩
set_option maxHeartbeats 1600000 in
theorem mupr_any (mb : Nat) (L : List Stp) (s i : Nat) (p l : Tr) (w : World) (hM : Mkr w mb L s i) (hroom : Room L s 9) (h_p : S8 p) (h_l : S8 l) :
    Calls Tryz.prog 101 #[mP mb, trV p, trV l] w fun e w' => e = .returned (trV (uprR s)) ∧ MkEnd w w' mb (L ++ uprL s p l) (s + 9) (i + 0) := by
  obtain ⟨h_px, h_py, h_pw⟩ := h_p
  obtain ⟨h_lx, h_ly, h_lw⟩ := h_l
  have r2 := hroom.2
  have E0 : MkEnd w (((((w.alloc (trO p))).alloc (trO l))).alloc (trZ)) mb L s i := (MkEnd.al (MkEnd.al (MkEnd.al (show MkEnd w w mb L s i from ⟨Kp.refl mb w, hM⟩) _) _) _)
  have f_p : AtT (((((w.alloc (trO p))).alloc (trO l))).alloc (trZ)) (w.heap.size) p := by
    have h := heap_alloc_new w (trO p)
    exact (At3.al (At3.al h _) _)
  have f_l : AtT (((((w.alloc (trO p))).alloc (trO l))).alloc (trZ)) (w.heap.size + 1) l := by
    have h := heap_alloc_new (w.alloc (trO p)) (trO l)
    simp only [sz_al] at h
    exact (At3.al h _)
  have f_RES : At3 (((((w.alloc (trO p))).alloc (trO l))).alloc (trZ)) (w.heap.size + 1 + 1) (.int .u8 0) (.int .u8 0) (.int .u8 0) := by
    have h := heap_alloc_new (((w.alloc (trO p))).alloc (trO l)) (trZ)
    simp only [sz_al] at h
    exact h
  have hsz : w.heap.size + 3 ≤ ((((((w.alloc (trO p))).alloc (trO l))).alloc (trZ))).heap.size := by simp only [sz_al]; omega
  go_enter Tryz.func101, Tryz.ntmps101
  go_wp2_with fail
  generalize (((w.alloc (.cells #[rV p.x, rV p.y, rV p.w] 88)).alloc (.cells #[rV l.x, rV l.y, rV l.w] 88)).alloc (.cells #[.int .u8 0, .int .u8 0, .int .u8 0] 88)) = w0 at *
  refine (mneg_any mb _ s i l.x w0 E0.2 (hroom.mono (by omega)) h_lx).mono ?_
  rintro e w1 ⟨he, k1⟩
  obtain ⟨v_y, hv⟩ : ∃ x : Nat, x = s + 1 := ⟨_, rfl⟩
  have b_y : v_y < 256 := by omega
  have he2 : e = .returned (rV v_y) := by rw [hv]; exact he
  have Hv_y : Hid (v_y = s + 1) := hv
  clear he hv
  subst he2
  have E1 : MkEnd w w1 mb (L ++ negL s l.x) (s + 2) (i) := MkEnd.trans E0 k1
  have R1 : Room (L ++ negL s l.x) (s + 2) 7 := Room.app 2 (k := 7) hroom (Nat.le_of_eq rfl)
  replace f_p := At3.kp f_p k1.1
  replace f_l := At3.kp f_l k1.1
  replace f_RES := At3.kp f_RES k1.1
  replace hsz := Nat.le_trans hsz k1.1.size
  clear k1 E0 hroom
  have f_tu : At3 (w1.alloc (.cells #[rV l.y, rV v_y, rV l.w] 88)) w1.heap.size (rV l.y) (rV v_y) (rV l.w) := heap_alloc_new w1 _
  have E1a := E1.al (.cells #[rV l.y, rV v_y, rV l.w] 88)
  have f_pa := At3.al f_p (.cells #[rV l.y, rV v_y, rV l.w] 88)
  have f_la := At3.al f_l (.cells #[rV l.y, rV v_y, rV l.w] 88)
  have f_RESa := At3.al f_RES (.cells #[rV l.y, rV v_y, rV l.w] 88)
  have hsza : _ ≤ (w1.alloc (.cells #[rV l.y, rV v_y, rV l.w] 88)).heap.size := Nat.le_trans hsz (by simp)
  obtain ⟨q_p0, q_p1, q_p2⟩ := cells3 f_p
  obtain ⟨q_l0, q_l1, q_l2⟩ := cells3 f_l
  obtain ⟨r_p0, r_p1, r_p2⟩ := cells3 f_pa
  obtain ⟨r_l0, r_l1, r_l2⟩ := cells3 f_la
  obtain ⟨r_tu0, r_tu1, r_tu2⟩ := cells3 f_tu
  have HH : Hid _ := And.intro E1a (And.intro f_tu (And.intro hsza (And.intro f_pa (And.intro f_la f_RESa))))
  clear E1a f_tu hsza f_pa f_la f_RESa
  go_wp2_with fail
  generalize w1.alloc (.cells #[rV l.y, rV v_y, rV l.w] 88) = w1b at *
  clear q_p0 q_p1 q_p2 q_l0 q_l1 q_l2 r_p0 r_p1 r_p2 r_l0 r_l1 r_l2 r_tu0 r_tu1 r_tu2 E1 hsz f_p f_l f_RES
  obtain ⟨E1, f_tu, hsz, f_p, f_l, f_RES⟩ := HH.out
  clear HH
  refine (mpar_any mb _ (s + 2) i p ((⟨l.y, v_y, l.w⟩ : Tr)) w1b E1.2 (R1.mono (by omega)) ⟨h_px, h_py, h_pw⟩ ⟨by show l.y < 256; first | exact h_ly | omega, by show v_y < 256; first | exact b_y | omega, by show l.w < 256; first | exact h_lw | omega⟩).mono ?_
  rintro e w2 ⟨rfl, k2⟩
  have E2 : MkEnd w w2 mb ((L ++ negL s l.x) ++ parL (s + 2) p ((⟨l.y, v_y, l.w⟩ : Tr))) (s + 9) (i) := MkEnd.trans E1 k2
  replace f_p := At3.kp f_p k2.1
  replace f_l := At3.kp f_l k2.1
  replace f_RES := At3.kp f_RES k2.1
  replace f_tu := At3.kp f_tu k2.1
  replace hsz := Nat.le_trans hsz k2.1.size
  clear k2 E1 R1
  have z0 := fz3 f_RES 0
  have z1 := fz3 f_RES 1
  have z2 := fz3 f_RES 2
  obtain ⟨y0, y1, y2⟩ := cells3 f_RES
  have HC : Hid _ := cells3 (set3_at (x' := rV ((parR (s + 2)).x)) (y' := rV ((parR (s + 2)).y)) (z' := rV ((parR (s + 2)).w)) f_RES)
  have HE : Hid _ := E2.st (x' := rV ((parR (s + 2)).x)) (y' := rV ((parR (s + 2)).y)) (z' := rV ((parR (s + 2)).w)) f_RES (by omega)
  have hlt := lt_of_block f_RES
  clear E2 f_p f_l f_RES f_tu
  go_wp2_with fail
  obtain ⟨g0, g1, g2⟩ := HC.out
  unfold set3 at g0 g1 g2
  have hL : ((L ++ negL s l.x) ++ parL (s + 2) p ((⟨l.y, v_y, l.w⟩ : Tr))) = L ++ uprL s p l := by
    have e_y := Hv_y.out
    subst e_y
    simp only [List.append_assoc]
    rfl
  have hR : (.agg #[rV ((parR (s + 2)).x), rV ((parR (s + 2)).y), rV ((parR (s + 2)).w)] : Value) = trV (uprR s) := rfl
  exact bodyPost_ret (v := .agg #[rV ((parR (s + 2)).x), rV ((parR (s + 2)).y), rV ((parR (s + 2)).w)]) (by simp [results, Tryz.results101, go_sem, g0, g1, g2]) rfl ⟨by rw [hR], by rw [← hL]; exact HE.out⟩
end Go.Proofs.YtmnfndpbblpjiaaGreatDoor
