/- The document's value: the sums, differences and products of registers. -/
import Derived.Test.YtmnfndpbblpjiaaGreatDoorRn5
import Derived.Test.YtmnfndpbblpjiaaGreatDoorPe
namespace Go.Proofs.YtmnfndpbblpjiaaGreatDoor
open Go.RowKit Pu

set_option maxHeartbeats 1600000 in
set_option maxRecDepth 100000 in
theorem value_add (t : Stp) (gr rn rcap : Nat) (iv : Value) (nx ny : Bool) (u v : Value) (a b : List Nat) (w : World) (hs : Small t) (hop : t.op = 2) (hy : t.y < rn) (hz : t.z < rn) (_hrn : rn ≤ 128) (hgr : gr < w.heap.size)
    (cy0 : w.cell? ⟨gr, t.y * 2, none⟩ = some (.bool nx)) (cy1 : w.cell? ⟨gr, t.y * 2 + 1, none⟩ = some u) (cz0 : w.cell? ⟨gr, t.z * 2, none⟩ = some (.bool ny)) (cz1 : w.cell? ⟨gr, t.z * 2 + 1, none⟩ = some v)
    (hU : Nm w nx u a) (hV : Nm w ny v b) (la : a.length ≤ 50000) (lb : b.length ≤ 50000) :
    Calls Tryz.prog 75 #[st4 t, .slice (some ⟨gr, 0, none⟩) rn rcap, iv] w (NumEnd w (num nx a + num ny b) (max a.length b.length + 4)) := by
  obtain ⟨ao, acap, rfl, -⟩ := owns_form hU.2
  obtain ⟨bo, bcap, rfl, -⟩ := owns_form hV.2
  obtain ⟨s0, s1, s2, s3⟩ := hs
  have hS := stb_new w t
  have hR := nmb_new (w.alloc (.cells #[.int .i64 t.op, .int .i64 t.x, .int .i64 t.y, .int .i64 t.z] 114)) false (.slice none 0 0)
  have m1 : Mod (fun _ => False) w (w.alloc (.cells #[.int .i64 t.op, .int .i64 t.x, .int .i64 t.y, .int .i64 t.z] 114)) := (Mod.refl _ w).alloc _
  have m2 : Mod (fun _ => False) (w.alloc (.cells #[.int .i64 t.op, .int .i64 t.x, .int .i64 t.y, .int .i64 t.z] 114)) ((w.alloc (.cells #[.int .i64 t.op, .int .i64 t.x, .int .i64 t.y, .int .i64 t.z] 114)).alloc (.cells #[.bool false, .slice none 0 0] 116)) := (Mod.refl _ _).alloc _
  have hS2 : Stb ((w.alloc (.cells #[.int .i64 t.op, .int .i64 t.x, .int .i64 t.y, .int .i64 t.z] 114)).alloc (.cells #[.bool false, .slice none 0 0] 116)) w.heap.size t := m2.keep hS (fun f => f)
  have hmW := m1.trans m2
  have hU3 := hU.mod hmW
  have hV3 := hV.mod hmW
  have d0 := hmW.cell cy0
  have d1 := hmW.cell cy1
  have d2 := hmW.cell cz0
  have d3 := hmW.cell cz1
  simp only [World.size_alloc] at hR
  have o0 : ((t.op : Int) == 0) = false := beq_f (m := 0) (by omega)
  have o1 : ((t.op : Int) == 1) = false := beq_f (m := 1) (by omega)
  have o2 : ((t.op : Int) == 2) = true := beq_t (m := 2) (by omega)
  have o3 : ((t.op : Int) == 3) = false := beq_f (m := 3) (by omega)
  have o4 : ((t.op : Int) == 4) = false := beq_f (m := 4) (by omega)
  have e0 := hS2.c0
  have e2 := hS2.c2
  have e3 := hS2.c3
  have i1 : (0 : Int) ≤ (t.y : Int) := by omega
  have i2 : (t.y : Int) < (rn : Int) := by omega
  have i3 : (0 : Int) ≤ (t.z : Int) := by omega
  have i4 : (t.z : Int) < (rn : Int) := by omega
  clear hS m1 m2 hU hV cy0 cy1 cz0 cz1 hop
  go_enter Tryz.func75, Tryz.ntmps75
  go_wp2_with fail
  generalize (w.alloc (.cells #[.int .i64 t.op, .int .i64 t.x, .int .i64 t.y, .int .i64 t.z] 114)).alloc (.cells #[.bool false, .slice none 0 0] 116) = W at *
  have hRd : Nmb W.drew (w.heap.size + 1) false (.slice none 0 0) := hR
  have hmWd : Mod (fun _ => False) W W.drew := (Mod.refl _ W).drew
  have HU : Hid (Nm W.drew nx (.slice ao a.length acap) a) := hU3.mod hmWd
  have HV : Hid (Nm W.drew ny (.slice bo b.length bcap) b) := hV3.mod hmWd
  clear hU3 hV3
  go_region_held3 (fun w' => w'.cell? ⟨w.heap.size, 2, none⟩ = some (.int .i64 t.y) ∧ w'.cell? ⟨w.heap.size, 3, none⟩ = some (.int .i64 t.z) ∧ w'.cell? ⟨gr, t.y * 2, none⟩ = some (.bool nx) ∧ w'.cell? ⟨gr, t.y * 2 + 1, none⟩ = some (.slice ao a.length acap) ∧ w'.cell? ⟨gr, t.z * 2, none⟩ = some (.bool ny) ∧ w'.cell? ⟨gr, t.z * 2 + 1, none⟩ = some (.slice bo b.length bcap))
    (first | go_keep | (exact hkeep) | (exact hkeep2))
    ((go_at_call 118; refine (plus_any nx ny (.slice ao a.length acap) (.slice bo b.length bcap) a b W.drew HU.out HV.out la lb).mono ?_; rintro e w4 ⟨hm4, nb, v4, l4, rfl, hN4, hx4, hl4⟩; have hR4 := hRd.keep hm4 (fun f => f); have r0 := hR4.c0; have r1 := hR4.c1; have f0 := hR4.fz 0; have f1 := hR4.fz 1; obtain ⟨vo4, vcap4, rfl, -⟩ := owns_form hN4.2; have hkeep := And.intro (hm4.cell (a := W.drew) e2) (And.intro (hm4.cell (a := W.drew) e3) (And.intro (hm4.cell (a := W.drew) d0) (And.intro (hm4.cell (a := W.drew) d1) (And.intro (hm4.cell (a := W.drew) d2) (hm4.cell (a := W.drew) d3))))); have hkeep2 := And.intro ((set2_cell (w.heap.size + 1) w4 (.bool nb) (.slice vo4 l4.length vcap4) w.heap.size 2 (by omega)).trans hkeep.1) (And.intro ((set2_cell (w.heap.size + 1) w4 (.bool nb) (.slice vo4 l4.length vcap4) w.heap.size 3 (by omega)).trans hkeep.2.1) (And.intro ((set2_cell (w.heap.size + 1) w4 (.bool nb) (.slice vo4 l4.length vcap4) gr (t.y * 2) (by omega)).trans hkeep.2.2.1) (And.intro ((set2_cell (w.heap.size + 1) w4 (.bool nb) (.slice vo4 l4.length vcap4) gr (t.y * 2 + 1) (by omega)).trans hkeep.2.2.2.1) (And.intro ((set2_cell (w.heap.size + 1) w4 (.bool nb) (.slice vo4 l4.length vcap4) gr (t.z * 2) (by omega)).trans hkeep.2.2.2.2.1) ((set2_cell (w.heap.size + 1) w4 (.bool nb) (.slice vo4 l4.length vcap4) gr (t.z * 2 + 1) (by omega)).trans hkeep.2.2.2.2.2)))))))
  have hR5 := hR4.set nb (.slice vo4 l4.length vcap4)
  have q0 := hR5.c0
  have q1 := hR5.c1
  have hmE := hmW.drew.trans hm4
  have hmF : Mod (fun _ => False) w ((w4.setCell ⟨w.heap.size + 1, 0, none⟩ (.bool nb)).setCell ⟨w.heap.size + 1, 1, none⟩ (.slice vo4 l4.length vcap4)) := ((hmE.mono (q := fun i => i = w.heap.size + 1) (fun _ _ f => f.elim)).trans (mod_set2 _ _ _ _)).mono (fun i hi h => by omega)
  have HNE : Hid (NumEnd w (num nx a + num ny b) (max a.length b.length + 4) (.returned (nm2 nb (.slice vo4 l4.length vcap4))) ((w4.setCell ⟨w.heap.size + 1, 0, none⟩ (.bool nb)).setCell ⟨w.heap.size + 1, 1, none⟩ (.slice vo4 l4.length vcap4))) :=
    numEnd (l := l4) hmF ⟨hN4.1, owns_set2 hN4.2 hR4 _ _⟩ hx4 (by omega)
  clear hN4 hx4 hmE hm4
  go_wp2_with fail
  exact bodyPost_ret (by simp [results, Tryz.results75, go_sem, q0, q1]) rfl HNE.out

set_option maxHeartbeats 1600000 in
set_option maxRecDepth 100000 in
theorem value_sub (t : Stp) (gr rn rcap : Nat) (iv : Value) (nx ny : Bool) (u v : Value) (a b : List Nat) (w : World) (hs : Small t) (hop : t.op = 3) (hy : t.y < rn) (hz : t.z < rn) (_hrn : rn ≤ 128) (hgr : gr < w.heap.size)
    (cy0 : w.cell? ⟨gr, t.y * 2, none⟩ = some (.bool nx)) (cy1 : w.cell? ⟨gr, t.y * 2 + 1, none⟩ = some u) (cz0 : w.cell? ⟨gr, t.z * 2, none⟩ = some (.bool ny)) (cz1 : w.cell? ⟨gr, t.z * 2 + 1, none⟩ = some v)
    (hU : Nm w nx u a) (hV : Nm w ny v b) (la : a.length ≤ 50000) (lb : b.length ≤ 50000) :
    Calls Tryz.prog 75 #[st4 t, .slice (some ⟨gr, 0, none⟩) rn rcap, iv] w (NumEnd w (num nx a - num ny b) (max a.length b.length + 4)) := by
  obtain ⟨ao, acap, rfl, -⟩ := owns_form hU.2
  obtain ⟨bo, bcap, rfl, -⟩ := owns_form hV.2
  obtain ⟨s0, s1, s2, s3⟩ := hs
  have hS := stb_new w t
  have hR := nmb_new (w.alloc (.cells #[.int .i64 t.op, .int .i64 t.x, .int .i64 t.y, .int .i64 t.z] 114)) false (.slice none 0 0)
  have m1 : Mod (fun _ => False) w (w.alloc (.cells #[.int .i64 t.op, .int .i64 t.x, .int .i64 t.y, .int .i64 t.z] 114)) := (Mod.refl _ w).alloc _
  have m2 : Mod (fun _ => False) (w.alloc (.cells #[.int .i64 t.op, .int .i64 t.x, .int .i64 t.y, .int .i64 t.z] 114)) ((w.alloc (.cells #[.int .i64 t.op, .int .i64 t.x, .int .i64 t.y, .int .i64 t.z] 114)).alloc (.cells #[.bool false, .slice none 0 0] 116)) := (Mod.refl _ _).alloc _
  have hS2 : Stb ((w.alloc (.cells #[.int .i64 t.op, .int .i64 t.x, .int .i64 t.y, .int .i64 t.z] 114)).alloc (.cells #[.bool false, .slice none 0 0] 116)) w.heap.size t := m2.keep hS (fun f => f)
  have hmW := m1.trans m2
  have hU3 := hU.mod hmW
  have hV3 := hV.mod hmW
  have d0 := hmW.cell cy0
  have d1 := hmW.cell cy1
  have d2 := hmW.cell cz0
  have d3 := hmW.cell cz1
  simp only [World.size_alloc] at hR
  have o0 : ((t.op : Int) == 0) = false := beq_f (m := 0) (by omega)
  have o1 : ((t.op : Int) == 1) = false := beq_f (m := 1) (by omega)
  have o2 : ((t.op : Int) == 2) = false := beq_f (m := 2) (by omega)
  have o3 : ((t.op : Int) == 3) = true := beq_t (m := 3) (by omega)
  have o4 : ((t.op : Int) == 4) = false := beq_f (m := 4) (by omega)
  have e0 := hS2.c0
  have e2 := hS2.c2
  have e3 := hS2.c3
  have i1 : (0 : Int) ≤ (t.y : Int) := by omega
  have i2 : (t.y : Int) < (rn : Int) := by omega
  have i3 : (0 : Int) ≤ (t.z : Int) := by omega
  have i4 : (t.z : Int) < (rn : Int) := by omega
  clear hS m1 m2 hU hV cy0 cy1 cz0 cz1 hop
  go_enter Tryz.func75, Tryz.ntmps75
  go_wp2_with fail
  generalize (w.alloc (.cells #[.int .i64 t.op, .int .i64 t.x, .int .i64 t.y, .int .i64 t.z] 114)).alloc (.cells #[.bool false, .slice none 0 0] 116) = W at *
  have hRd : Nmb W.drew (w.heap.size + 1) false (.slice none 0 0) := hR
  have hmWd : Mod (fun _ => False) W W.drew := (Mod.refl _ W).drew
  have HU : Hid (Nm W.drew nx (.slice ao a.length acap) a) := hU3.mod hmWd
  have HV : Hid (Nm W.drew ny (.slice bo b.length bcap) b) := hV3.mod hmWd
  clear hU3 hV3
  go_region_held3 (fun w' => w'.cell? ⟨w.heap.size, 2, none⟩ = some (.int .i64 t.y) ∧ w'.cell? ⟨w.heap.size, 3, none⟩ = some (.int .i64 t.z) ∧ w'.cell? ⟨gr, t.y * 2, none⟩ = some (.bool nx) ∧ w'.cell? ⟨gr, t.y * 2 + 1, none⟩ = some (.slice ao a.length acap) ∧ w'.cell? ⟨gr, t.z * 2, none⟩ = some (.bool ny) ∧ w'.cell? ⟨gr, t.z * 2 + 1, none⟩ = some (.slice bo b.length bcap))
    (first | go_keep | (exact hkeep) | (exact hkeep2))
    ((go_at_call 119; refine (minus_any nx ny (.slice ao a.length acap) (.slice bo b.length bcap) a b W.drew HU.out HV.out la lb).mono ?_; rintro e w4 ⟨hm4, nb, v4, l4, rfl, hN4, hx4, hl4⟩; have hR4 := hRd.keep hm4 (fun f => f); have r0 := hR4.c0; have r1 := hR4.c1; have f0 := hR4.fz 0; have f1 := hR4.fz 1; obtain ⟨vo4, vcap4, rfl, -⟩ := owns_form hN4.2; have hkeep := And.intro (hm4.cell (a := W.drew) e2) (And.intro (hm4.cell (a := W.drew) e3) (And.intro (hm4.cell (a := W.drew) d0) (And.intro (hm4.cell (a := W.drew) d1) (And.intro (hm4.cell (a := W.drew) d2) (hm4.cell (a := W.drew) d3))))); have hkeep2 := And.intro ((set2_cell (w.heap.size + 1) w4 (.bool nb) (.slice vo4 l4.length vcap4) w.heap.size 2 (by omega)).trans hkeep.1) (And.intro ((set2_cell (w.heap.size + 1) w4 (.bool nb) (.slice vo4 l4.length vcap4) w.heap.size 3 (by omega)).trans hkeep.2.1) (And.intro ((set2_cell (w.heap.size + 1) w4 (.bool nb) (.slice vo4 l4.length vcap4) gr (t.y * 2) (by omega)).trans hkeep.2.2.1) (And.intro ((set2_cell (w.heap.size + 1) w4 (.bool nb) (.slice vo4 l4.length vcap4) gr (t.y * 2 + 1) (by omega)).trans hkeep.2.2.2.1) (And.intro ((set2_cell (w.heap.size + 1) w4 (.bool nb) (.slice vo4 l4.length vcap4) gr (t.z * 2) (by omega)).trans hkeep.2.2.2.2.1) ((set2_cell (w.heap.size + 1) w4 (.bool nb) (.slice vo4 l4.length vcap4) gr (t.z * 2 + 1) (by omega)).trans hkeep.2.2.2.2.2)))))))
  have hR5 := hR4.set nb (.slice vo4 l4.length vcap4)
  have q0 := hR5.c0
  have q1 := hR5.c1
  have hmE := hmW.drew.trans hm4
  have hmF : Mod (fun _ => False) w ((w4.setCell ⟨w.heap.size + 1, 0, none⟩ (.bool nb)).setCell ⟨w.heap.size + 1, 1, none⟩ (.slice vo4 l4.length vcap4)) := ((hmE.mono (q := fun i => i = w.heap.size + 1) (fun _ _ f => f.elim)).trans (mod_set2 _ _ _ _)).mono (fun i hi h => by omega)
  have HNE : Hid (NumEnd w (num nx a - num ny b) (max a.length b.length + 4) (.returned (nm2 nb (.slice vo4 l4.length vcap4))) ((w4.setCell ⟨w.heap.size + 1, 0, none⟩ (.bool nb)).setCell ⟨w.heap.size + 1, 1, none⟩ (.slice vo4 l4.length vcap4))) :=
    numEnd (l := l4) hmF ⟨hN4.1, owns_set2 hN4.2 hR4 _ _⟩ hx4 (by omega)
  clear hN4 hx4 hmE hm4
  go_wp2_with fail
  exact bodyPost_ret (by simp [results, Tryz.results75, go_sem, q0, q1]) rfl HNE.out

set_option maxHeartbeats 1600000 in
set_option maxRecDepth 100000 in
theorem value_mul (t : Stp) (gr rn rcap : Nat) (iv : Value) (nx ny : Bool) (u v : Value) (a b : List Nat) (w : World) (hs : Small t) (hop : t.op = 4) (hy : t.y < rn) (hz : t.z < rn) (_hrn : rn ≤ 128) (hgr : gr < w.heap.size)
    (cy0 : w.cell? ⟨gr, t.y * 2, none⟩ = some (.bool nx)) (cy1 : w.cell? ⟨gr, t.y * 2 + 1, none⟩ = some u) (cz0 : w.cell? ⟨gr, t.z * 2, none⟩ = some (.bool ny)) (cz1 : w.cell? ⟨gr, t.z * 2 + 1, none⟩ = some v)
    (hU : Nm w nx u a) (hV : Nm w ny v b) (la : a.length ≤ 4000) (lb : b.length ≤ 4000) :
    Calls Tryz.prog 75 #[st4 t, .slice (some ⟨gr, 0, none⟩) rn rcap, iv] w (NumEnd w (num nx a * num ny b) (a.length + b.length + 4)) := by
  obtain ⟨ao, acap, rfl, -⟩ := owns_form hU.2
  obtain ⟨bo, bcap, rfl, -⟩ := owns_form hV.2
  obtain ⟨s0, s1, s2, s3⟩ := hs
  have hS := stb_new w t
  have hR := nmb_new (w.alloc (.cells #[.int .i64 t.op, .int .i64 t.x, .int .i64 t.y, .int .i64 t.z] 114)) false (.slice none 0 0)
  have m1 : Mod (fun _ => False) w (w.alloc (.cells #[.int .i64 t.op, .int .i64 t.x, .int .i64 t.y, .int .i64 t.z] 114)) := (Mod.refl _ w).alloc _
  have m2 : Mod (fun _ => False) (w.alloc (.cells #[.int .i64 t.op, .int .i64 t.x, .int .i64 t.y, .int .i64 t.z] 114)) ((w.alloc (.cells #[.int .i64 t.op, .int .i64 t.x, .int .i64 t.y, .int .i64 t.z] 114)).alloc (.cells #[.bool false, .slice none 0 0] 116)) := (Mod.refl _ _).alloc _
  have hS2 : Stb ((w.alloc (.cells #[.int .i64 t.op, .int .i64 t.x, .int .i64 t.y, .int .i64 t.z] 114)).alloc (.cells #[.bool false, .slice none 0 0] 116)) w.heap.size t := m2.keep hS (fun f => f)
  have hmW := m1.trans m2
  have hU3 := hU.mod hmW
  have hV3 := hV.mod hmW
  have d0 := hmW.cell cy0
  have d1 := hmW.cell cy1
  have d2 := hmW.cell cz0
  have d3 := hmW.cell cz1
  simp only [World.size_alloc] at hR
  have o0 : ((t.op : Int) == 0) = false := beq_f (m := 0) (by omega)
  have o1 : ((t.op : Int) == 1) = false := beq_f (m := 1) (by omega)
  have o2 : ((t.op : Int) == 2) = false := beq_f (m := 2) (by omega)
  have o3 : ((t.op : Int) == 3) = false := beq_f (m := 3) (by omega)
  have o4 : ((t.op : Int) == 4) = true := beq_t (m := 4) (by omega)
  have e0 := hS2.c0
  have e2 := hS2.c2
  have e3 := hS2.c3
  have i1 : (0 : Int) ≤ (t.y : Int) := by omega
  have i2 : (t.y : Int) < (rn : Int) := by omega
  have i3 : (0 : Int) ≤ (t.z : Int) := by omega
  have i4 : (t.z : Int) < (rn : Int) := by omega
  clear hS m1 m2 hU hV cy0 cy1 cz0 cz1 hop
  go_enter Tryz.func75, Tryz.ntmps75
  go_wp2_with fail
  generalize (w.alloc (.cells #[.int .i64 t.op, .int .i64 t.x, .int .i64 t.y, .int .i64 t.z] 114)).alloc (.cells #[.bool false, .slice none 0 0] 116) = W at *
  have hRd : Nmb W.drew (w.heap.size + 1) false (.slice none 0 0) := hR
  have hmWd : Mod (fun _ => False) W W.drew := (Mod.refl _ W).drew
  have HU : Hid (Nm W.drew nx (.slice ao a.length acap) a) := hU3.mod hmWd
  have HV : Hid (Nm W.drew ny (.slice bo b.length bcap) b) := hV3.mod hmWd
  clear hU3 hV3
  go_region_held3 (fun w' => w'.cell? ⟨w.heap.size, 2, none⟩ = some (.int .i64 t.y) ∧ w'.cell? ⟨w.heap.size, 3, none⟩ = some (.int .i64 t.z) ∧ w'.cell? ⟨gr, t.y * 2, none⟩ = some (.bool nx) ∧ w'.cell? ⟨gr, t.y * 2 + 1, none⟩ = some (.slice ao a.length acap) ∧ w'.cell? ⟨gr, t.z * 2, none⟩ = some (.bool ny) ∧ w'.cell? ⟨gr, t.z * 2 + 1, none⟩ = some (.slice bo b.length bcap))
    (first | go_keep | (exact hkeep) | (exact hkeep2))
    ((go_at_call 120; refine (times_any nx ny (.slice ao a.length acap) (.slice bo b.length bcap) a b W.drew HU.out HV.out la lb).mono ?_; rintro e w4 ⟨hm4, nb, v4, l4, rfl, hN4, hx4, hl4⟩; have hR4 := hRd.keep hm4 (fun f => f); have r0 := hR4.c0; have r1 := hR4.c1; have f0 := hR4.fz 0; have f1 := hR4.fz 1; obtain ⟨vo4, vcap4, rfl, -⟩ := owns_form hN4.2; have hkeep := And.intro (hm4.cell (a := W.drew) e2) (And.intro (hm4.cell (a := W.drew) e3) (And.intro (hm4.cell (a := W.drew) d0) (And.intro (hm4.cell (a := W.drew) d1) (And.intro (hm4.cell (a := W.drew) d2) (hm4.cell (a := W.drew) d3))))); have hkeep2 := And.intro ((set2_cell (w.heap.size + 1) w4 (.bool nb) (.slice vo4 l4.length vcap4) w.heap.size 2 (by omega)).trans hkeep.1) (And.intro ((set2_cell (w.heap.size + 1) w4 (.bool nb) (.slice vo4 l4.length vcap4) w.heap.size 3 (by omega)).trans hkeep.2.1) (And.intro ((set2_cell (w.heap.size + 1) w4 (.bool nb) (.slice vo4 l4.length vcap4) gr (t.y * 2) (by omega)).trans hkeep.2.2.1) (And.intro ((set2_cell (w.heap.size + 1) w4 (.bool nb) (.slice vo4 l4.length vcap4) gr (t.y * 2 + 1) (by omega)).trans hkeep.2.2.2.1) (And.intro ((set2_cell (w.heap.size + 1) w4 (.bool nb) (.slice vo4 l4.length vcap4) gr (t.z * 2) (by omega)).trans hkeep.2.2.2.2.1) ((set2_cell (w.heap.size + 1) w4 (.bool nb) (.slice vo4 l4.length vcap4) gr (t.z * 2 + 1) (by omega)).trans hkeep.2.2.2.2.2)))))))
  have hR5 := hR4.set nb (.slice vo4 l4.length vcap4)
  have q0 := hR5.c0
  have q1 := hR5.c1
  have hmE := hmW.drew.trans hm4
  have hmF : Mod (fun _ => False) w ((w4.setCell ⟨w.heap.size + 1, 0, none⟩ (.bool nb)).setCell ⟨w.heap.size + 1, 1, none⟩ (.slice vo4 l4.length vcap4)) := ((hmE.mono (q := fun i => i = w.heap.size + 1) (fun _ _ f => f.elim)).trans (mod_set2 _ _ _ _)).mono (fun i hi h => by omega)
  have HNE : Hid (NumEnd w (num nx a * num ny b) (a.length + b.length + 4) (.returned (nm2 nb (.slice vo4 l4.length vcap4))) ((w4.setCell ⟨w.heap.size + 1, 0, none⟩ (.bool nb)).setCell ⟨w.heap.size + 1, 1, none⟩ (.slice vo4 l4.length vcap4))) :=
    numEnd (l := l4) hmF ⟨hN4.1, owns_set2 hN4.2 hR4 _ _⟩ hx4 (by omega)
  clear hN4 hx4 hmE hm4
  go_wp2_with fail
  exact bodyPost_ret (by simp [results, Tryz.results75, go_sem, q0, q1]) rfl HNE.out

end Go.Proofs.YtmnfndpbblpjiaaGreatDoor
