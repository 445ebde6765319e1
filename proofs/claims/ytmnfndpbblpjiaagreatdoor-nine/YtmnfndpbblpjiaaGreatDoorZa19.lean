/- The document's value: the sums, differences and products of registers. -/
import Derived.Test.YtmnfndpbblpjiaaGreatDoorZa17
import Derived.Test.YtmnfndpbblpjiaaGreatDoorZa12
import Derived.Test.YtmnfndpbblpjiaaGreatDoorZa18
namespace Go.Proofs.YtmnfndpbblpjiaaGreatDoor
open Go.RowKit Pu
set_option maxHeartbeats 1600000 in
set_option maxRecDepth 100000 in
theorem value_add (t : Stp) (gr rn rcap : Nat) (iv : Value) (nx ny : Bool) (u v : Value) (a b : List Nat) (w : World) (hs : Small t) (hop : t.op = 2) (hy : t.y < rn) (hz : t.z < rn) (_hrn : rn ≤ 128) (hgr : gr < w.heap.size)
    (cy0 : w.cell? ⟨gr, t.y * 2, none⟩ = some (.bool nx)) (cy1 : w.cell? ⟨gr, t.y * 2 + 1, none⟩ = some u) (cz0 : w.cell? ⟨gr, t.z * 2, none⟩ = some (.bool ny)) (cz1 : w.cell? ⟨gr, t.z * 2 + 1, none⟩ = some v)
    (hU : Nm w nx u a) (hV : Nm w ny v b) (la : a.length ≤ 50000) (lb : b.length ≤ 50000) :
    Calls Tryz.prog 75 #[st4 t, .slice (some ⟨gr, 0, none⟩) rn rcap, iv] w (NumEnd w (num nx a + num ny b) (max a.length b.length + 4)) := by
  obtain ⟨ao, acap, rfl, -⟩ := owns_form hU.2
  obtain ⟨bo, bcap, rfl, -⟩ := owns_form hV.2
  obtain ⟨s0, s1, s2, s3⟩ := hs
  have hS := stb_new w t
  have hR := nmb_new (w.alloc (.cells #[.int .i64 t.op, .int .i64 t.x, .int .i64 t.y, .int .i64 t.z] 114)) false (.slice none 0 0)
  have m1 : Mod (fun _ => False) w (w.alloc (.cells #[.int .i64 t.op, .int .i64 t.x, .int .i64 t.y, .int .i64 t.z] 114)) := (Mod.refl _ w).alloc _
  have m2 : Mod (fun _ => False) (w.alloc (.cells #[.int .i64 t.op, .int .i64 t.x, .int .i64 t.y, .int .i64 t.z] 114)) ((w.alloc (.cells #[.int .i64 t.op, .int .i64 t.x, .int .i64 t.y, .int .i64 t.z] 114)).alloc (.cells #[.bool false, .slice none 0 0] 116)) := (Mod.refl _ _).alloc _
  have hS2 : Stb ((w.alloc (.cells #[.int .i64 t.op, .int .i64 t.x, .int .i64 t.y, .int .i64 t.z] 114)).alloc (.cells #[.bool false, .slice none 0 0] 116)) w.heap.size t := m2.keep hS (fun f => f)
  have hmW := m1.trans m2
  have hU3 := hU.mod hmW
  have hV3 := hV.mod hmW
  have d0 := hmW.cell cy0
  have d1 := hmW.cell cy1
  have d2 := hmW.cell cz0
  have d3 := hmW.cell cz1
  simp only [World.size_alloc] at hR
  have o0 : ((t.op : Int) == 0) = false := beq_f (m := 0) (by omega)
  have o1 : ((t.op : Int) == 1) = false := beq_f (m := 1) (by omega)
  have o2 : ((t.op : Int) == 2) = true := beq_t (m := 2) (by omega)
  have o3 : ((t.op : Int) == 3) = false := beq_f (m := 3) (by omega)
  have o4 : ((t.op : Int) == 4) = false := beq_f (m := 4) (by omega)
  have e0 := hS2.c0
  have e2 := hS2.c2
  have e3 := hS2.c3
  have i1 : (0 : Int) ≤ (t.y : Int) := by omega
  have i2 : (t.y : Int) < (rn : Int) := by omega
  have i3 : (0 : Int) ≤ (t.z : Int) := by omega
  have i4 : (t.z : Int) < (rn : Int) := by omega
  clear hS m1 m2 hU hV cy0 cy1 cz0 cz1 hop
  go_enter Tryz.func75, Tryz.ntmps75
  go_wp2_with fail
  generalize (w.alloc (.cells #[.int .i64 t.op, .int .i64 t.x, .int .i64 t.y, .int .i64 t.z] 114)).alloc (.cells #[.bool false, .slice none 0 0] 116) = W at *
  have hRd : Nmb W.drew (w.heap.size + 1) false (.slice none 0 0) := hR
  have hmWd : Mod (fun _ => False) W W.drew := (Mod.refl _ W).drew
  have HU : Hid (Nm W.drew nx (.slice ao a.length acap) a) := hU3.mod hmWd
  have HV : Hid (Nm W.drew ny (.slice bo b.length bcap) b) := hV3.mod hmWd
  clear hU3 hV3
  go_region_held3 (fun w' => w'.cell? ⟨w.heap.size, 2, none⟩ = some (.int .i64 t.y) ∧ w'.cell? ⟨w.heap.size, 3, none⟩ = some (.int .i64 t.z) ∧ w'.cell? ⟨gr, t.y * 2, none⟩ = some (.bool nx) ∧ w'.cell? ⟨gr, t.y * 2 + 1, none⟩ = some (.slice ao a.length acap) ∧ w'.cell? ⟨gr, t.z * 2, none⟩ = some (.bool ny) ∧ w'.cell? ⟨gr, t.z * 2 + 1, none⟩ = some (.slice bo b.length bcap))
    (first | go_keep | (exact hkeep) | (exact hkeep2))
    ((go_at_call 118; refine (plus_any nx ny (.slice ao a.length acap) (.slice bo b.length bcap) a b W.drew HU.out HV.out (by omega) (by omega)).mono ?_; rintro e w4 ⟨hm4, nb, v4, l4, rfl, hN4, hx4, hl4⟩; have hR4 := hRd.keep hm4 (fun f => f); have r0 := hR4.c0; have r1 := hR4.c1; have f0 := hR4.fz 0; have f1 := hR4.fz 1; obtain ⟨vo4, vcap4, rfl, -⟩ := owns_form hN4.2; have hkeep := And.intro (hm4.cell (a := W.drew) e2) (And.intro (hm4.cell (a := W.drew) e3) (And.intro (hm4.cell (a := W.drew) d0) (And.intro (hm4.cell (a := W.drew) d1) (And.intro (hm4.cell (a := W.drew) d2) (hm4.cell (a := W.drew) d3))))); have hkeep2 := And.intro ((set2_cell (w.heap.size + 1) w4 (.bool nb) (.slice vo4 l4.length vcap4) w.heap.size 2 (by omega)).trans hkeep.1) (And.intro ((set2_cell (w.heap.size + 1) w4 (.bool nb) (.slice vo4 l4.length vcap4) w.heap.size 3 (by omega)).trans hkeep.2.1) (And.intro ((set2_cell (w.heap.size + 1) w4 (.bool nb) (.slice vo4 l4.length vcap4) gr (t.y * 2) (by omega)).trans hkeep.2.2.1) (And.intro ((set2_cell (w.heap.size + 1) w4 (.bool nb) (.slice vo4 l4.length vcap4) gr (t.y * 2 + 1) (by omega)).trans hkeep.2.2.2.1) (And.intro ((set2_cell (w.heap.size + 1) w4 (.bool nb) (.slice vo4 l4.length vcap4) gr (t.z * 2) (by omega)).trans hkeep.2.2.2.2.1) ((set2_cell (w.heap.size + 1) w4 (.bool nb) (.slice vo4 l4.length vcap4) gr (t.z * 2 + 1) (by omega)).trans hkeep.2.2.2.2.2)))))))
  have hR5 := hR4.set nb (.slice vo4 l4.length vcap4)
  have q0 := hR5.c0
  have q1 := hR5.c1
  have hmE := hmW.drew.trans hm4
  have hmF : Mod (fun _ => False) w ((w4.setCell ⟨w.heap.size + 1, 0, none⟩ (.bool nb)).setCell ⟨w.heap.size + 1, 1, none⟩ (.slice vo4 l4.length vcap4)) := ((hmE.mono (q := fun i => i = w.heap.size + 1) (fun _ _ f => f.elim)).trans (mod_set2 _ _ _ _)).mono (fun i hi h => by omega)
  have HNE : Hid (NumEnd w (num nx a + num ny b) (max a.length b.length + 4) (.returned (nm2 nb (.slice vo4 l4.length vcap4))) ((w4.setCell ⟨w.heap.size + 1, 0, none⟩ (.bool nb)).setCell ⟨w.heap.size + 1, 1, none⟩ (.slice vo4 l4.length vcap4))) :=
    numEnd (l := l4) hmF ⟨hN4.1, owns_set2 hN4.2 hR4 _ _⟩ hx4 (by omega)
  clear hN4 hx4 hmE hm4
  go_wp2_with fail
  exact bodyPost_ret (by simp [results, Tryz.results75, go_sem, q0, q1]) rfl HNE.out
set_option maxHeartbeats 1600000 in
set_option maxRecDepth 100000 in
theorem value_sub (t : Stp) (gr rn rcap : Nat) (iv : Value) (nx ny : Bool) (u v : Value) (a b : List Nat) (w : World) (hs : Small t) (hop : t.op = 3) (hy : t.y < rn) (hz : t.z < rn) (_hrn : rn ≤ 128) (hgr : gr < w.heap.size)
    (cy0 : w.cell? ⟨gr, t.y * 2, none⟩ = some (.bool nx)) (cy1 : w.cell? ⟨gr, t.y * 2 + 1, none⟩ = some u) (cz0 : w.cell? ⟨gr, t.z * 2, none⟩ = some (.bool ny)) (cz1 : w.cell? ⟨gr, t.z * 2 + 1, none⟩ = some v)
    (hU : Nm w nx u a) (hV : Nm w ny v b) (la : a.length ≤ 50000) (lb : b.length ≤ 50000) :
    Calls Tryz.prog 75 #[st4 t, .slice (some ⟨gr, 0, none⟩) rn rcap, iv] w (NumEnd w (num nx a - num ny b) (max a.length b.length + 4)) := by
  obtain ⟨ao, acap, rfl, -⟩ := owns_form hU.2
  obtain ⟨bo, bcap, rfl, -⟩ := owns_form hV.2
  obtain ⟨s0, s1, s2, s3⟩ := hs
  have hS := stb_new w t
  have hR := nmb_new (w.alloc (.cells #[.int .i64 t.op, .int .i64 t.x, .int .i64 t.y, .int .i64 t.z] 114)) false (.slice none 0 0)
  have m1 : Mod (fun _ => False) w (w.alloc (.cells #[.int .i64 t.op, .int .i64 t.x, .int .i64 t.y, .int .i64 t.z] 114)) := (Mod.refl _ w).alloc _
  have m2 : Mod (fun _ => False) (w.alloc (.cells #[.int .i64 t.op, .int .i64 t.x, .int .i64 t.y, .int .i64 t.z] 114)) ((w.alloc (.cells #[.int .i64 t.op, .int .i64 t.x, .int .i64 t.y, .int .i64 t.z] 114)).alloc (.cells #[.bool false, .slice none 0 0] 116)) := (Mod.refl _ _).alloc _
  have hS2 : Stb ((w.alloc (.cells #[.int .i64 t.op, .int .i64 t.x, .int .i64 t.y, .int .i64 t.z] 114)).alloc (.cells #[.bool false, .slice none 0 0] 116)) w.heap.size t := m2.keep hS (fun f => f)
  have hmW := m1.trans m2
  have hU3 := hU.mod hmW
  have hV3 := hV.mod hmW
  have d0 := hmW.cell cy0
  have d1 := hmW.cell cy1
  have d2 := hmW.cell cz0
  have d3 := hmW.cell cz1
  simp only [World.size_alloc] at hR
  have o0 : ((t.op : Int) == 0) = false := beq_f (m := 0) (by omega)
  have o1 : ((t.op : Int) == 1) = false := beq_f (m := 1) (by omega)
  have o2 : ((t.op : Int) == 2) = false := beq_f (m := 2) (by omega)
  have o3 : ((t.op : Int) == 3) = true := beq_t (m := 3) (by omega)
  have o4 : ((t.op : Int) == 4) = false := beq_f (m := 4) (by omega)
  have e0 := hS2.c0
  have e2 := hS2.c2
  have e3 := hS2.c3
  have i1 : (0 : Int) ≤ (t.y : Int) := by omega
  have i2 : (t.y : Int) < (rn : Int) := by omega
  have i3 : (0 : Int) ≤ (t.z : Int) := by omega
  have i4 : (t.z : Int) < (rn : Int) := by omega
  clear hS m1 m2 hU hV cy0 cy1 cz0 cz1 hop
  go_enter Tryz.func75, Tryz.ntmps75
  go_wp2_with fail
  generalize (w.alloc (.cells #[.int .i64 t.op, .int .i64 t.x, .int .i64 t.y, .int .i64 t.z] 114)).alloc (.cells #[.bool false, .slice none 0 0] 116) = W at *
  have hRd : Nmb W.drew (w.heap.size + 1) false (.slice none 0 0) := hR
  have hmWd : Mod (fun _ => False) W W.drew := (Mod.refl _ W).drew
  have HU : Hid (Nm W.drew nx (.slice ao a.length acap) a) := hU3.mod hmWd
  have HV : Hid (Nm W.drew ny (.slice bo b.length bcap) b) := hV3.mod hmWd
  clear hU3 hV3
  go_region_held3 (fun w' => w'.cell? ⟨w.heap.size, 2, none⟩ = some (.int .i64 t.y) ∧ w'.cell? ⟨w.heap.size, 3, none⟩ = some (.int .i64 t.z) ∧ w'.cell? ⟨gr, t.y * 2, none⟩ = some (.bool nx) ∧ w'.cell? ⟨gr, t.y * 2 + 1, none⟩ = some (.slice ao a.length acap) ∧ w'.cell? ⟨gr, t.z * 2, none⟩ = some (.bool ny) ∧ w'.cell? ⟨gr, t.z * 2 + 1, none⟩ = some (.slice bo b.length bcap))
    (first | go_keep | (exact hkeep) | (exact hkeep2))
    ((go_at_call 119; refine (minus_any nx ny (.slice ao a.length acap) (.slice bo b.length bcap) a b W.drew HU.out HV.out (by omega) (by omega)).mono ?_; rintro e w4 ⟨hm4, nb, v4, l4, rfl, hN4, hx4, hl4⟩; have hR4 := hRd.keep hm4 (fun f => f); have r0 := hR4.c0; have r1 := hR4.c1; have f0 := hR4.fz 0; have f1 := hR4.fz 1; obtain ⟨vo4, vcap4, rfl, -⟩ := owns_form hN4.2; have hkeep := And.intro (hm4.cell (a := W.drew) e2) (And.intro (hm4.cell (a := W.drew) e3) (And.intro (hm4.cell (a := W.drew) d0) (And.intro (hm4.cell (a := W.drew) d1) (And.intro (hm4.cell (a := W.drew) d2) (hm4.cell (a := W.drew) d3))))); have hkeep2 := And.intro ((set2_cell (w.heap.size + 1) w4 (.bool nb) (.slice vo4 l4.length vcap4) w.heap.size 2 (by omega)).trans hkeep.1) (And.intro ((set2_cell (w.heap.size + 1) w4 (.bool nb) (.slice vo4 l4.length vcap4) w.heap.size 3 (by omega)).trans hkeep.2.1) (And.intro ((set2_cell (w.heap.size + 1) w4 (.bool nb) (.slice vo4 l4.length vcap4) gr (t.y * 2) (by omega)).trans hkeep.2.2.1) (And.intro ((set2_cell (w.heap.size + 1) w4 (.bool nb) (.slice vo4 l4.length vcap4) gr (t.y * 2 + 1) (by omega)).trans hkeep.2.2.2.1) (And.intro ((set2_cell (w.heap.size + 1) w4 (.bool nb) (.slice vo4 l4.length vcap4) gr (t.z * 2) (by omega)).trans hkeep.2.2.2.2.1) ((set2_cell (w.heap.size + 1) w4 (.bool nb) (.slice vo4 l4.length vcap4) gr (t.z * 2 + 1) (by omega)).trans hkeep.2.2.2.2.2)))))))
  have hR5 := hR4.set nb (.slice vo4 l4.length vcap4)
  have q0 := hR5.c0
  have q1 := hR5.c1
  have hmE := hmW.drew.trans hm4
  have hmF : Mod (fun _ => False) w ((w4.setCell ⟨w.heap.size + 1, 0, none⟩ (.bool nb)).setCell ⟨w.heap.size + 1, 1, none⟩ (.slice vo4 l4.length vcap4)) := ((hmE.mono (q := fun i => i = w.heap.size + 1) (fun _ _ f => f.elim)).trans (mod_set2 _ _ _ _)).mono (fun i hi h => by omega)
  have HNE : Hid (NumEnd w (num nx a - num ny b) (max a.length b.length + 4) (.returned (nm2 nb (.slice vo4 l4.length vcap4))) ((w4.setCell ⟨w.heap.size + 1, 0, none⟩ (.bool nb)).setCell ⟨w.heap.size + 1, 1, none⟩ (.slice vo4 l4.length vcap4))) :=
    numEnd (l := l4) hmF ⟨hN4.1, owns_set2 hN4.2 hR4 _ _⟩ hx4 (by omega)
  clear hN4 hx4 hmE hm4
  go_wp2_with fail
  exact bodyPost_ret (by simp [results, Tryz.results75, go_sem, q0, q1]) rfl HNE.out
set_option maxHeartbeats 1600000 in
set_option maxRecDepth 100000 in
theorem value_mul (t : Stp) (gr rn rcap : Nat) (iv : Value) (nx ny : Bool) (u v : Value) (a b : List Nat) (w : World) (hs : Small t) (hop : t.op = 4) (hy : t.y < rn) (hz : t.z < rn) (_hrn : rn ≤ 128) (hgr : gr < w.heap.size)
    (cy0 : w.cell? ⟨gr, t.y * 2, none⟩ = some (.bool nx)) (cy1 : w.cell? ⟨gr, t.y * 2 + 1, none⟩ = some u) (cz0 : w.cell? ⟨gr, t.z * 2, none⟩ = some (.bool ny)) (cz1 : w.cell? ⟨gr, t.z * 2 + 1, none⟩ = some v)
    (hU : Nm w nx u a) (hV : Nm w ny v b) (la : a.length ≤ 4000) (lb : b.length ≤ 4000) :
    Calls Tryz.prog 75 #[st4 t, .slice (some ⟨gr, 0, none⟩) rn rcap, iv] w (NumEnd w (num nx a * num ny b) (a.length + b.length + 4)) := by
  obtain ⟨ao, acap, rfl, -⟩ := owns_form hU.2
  obtain ⟨bo, bcap, rfl, -⟩ := owns_form hV.2
  obtain ⟨s0, s1, s2, s3⟩ := hs
  have hS := stb_new w t
  have hR := nmb_new (w.alloc (.cells #[.int .i64 t.op, .int .i64 t.x, .int .i64 t.y, .int .i64 t.z] 114)) false (.slice none 0 0)
  have m1 : Mod (fun _ => False) w (w.alloc (.cells #[.int .i64 t.op, .int .i64 t.x, .int .i64 t.y, .int .i64 t.z] 114)) := (Mod.refl _ w).alloc _
  have m2 : Mod (fun _ => False) (w.alloc (.cells #[.int .i64 t.op, .int .i64 t.x, .int .i64 t.y, .int .i64 t.z] 114)) ((w.alloc (.cells #[.int .i64 t.op, .int .i64 t.x, .int .i64 t.y, .int .i64 t.z] 114)).alloc (.cells #[.bool false, .slice none 0 0] 116)) := (Mod.refl _ _).alloc _
  have hS2 : Stb ((w.alloc (.cells #[.int .i64 t.op, .int .i64 t.x, .int .i64 t.y, .int .i64 t.z] 114)).alloc (.cells #[.bool false, .slice none 0 0] 116)) w.heap.size t := m2.keep hS (fun f => f)
  have hmW := m1.trans m2
  have hU3 := hU.mod hmW
  have hV3 := hV.mod hmW
  have d0 := hmW.cell cy0
  have d1 := hmW.cell cy1
  have d2 := hmW.cell cz0
  have d3 := hmW.cell cz1
  simp only [World.size_alloc] at hR
  have o0 : ((t.op : Int) == 0) = false := beq_f (m := 0) (by omega)
  have o1 : ((t.op : Int) == 1) = false := beq_f (m := 1) (by omega)
  have o2 : ((t.op : Int) == 2) = false := beq_f (m := 2) (by omega)
  have o3 : ((t.op : Int) == 3) = false := beq_f (m := 3) (by omega)
  have o4 : ((t.op : Int) == 4) = true := beq_t (m := 4) (by omega)
  have e0 := hS2.c0
  have e2 := hS2.c2
  have e3 := hS2.c3
  have i1 : (0 : Int) ≤ (t.y : Int) := by omega
  have i2 : (t.y : Int) < (rn : Int) := by omega
  have i3 : (0 : Int) ≤ (t.z : Int) := by omega
  have i4 : (t.z : Int) < (rn : Int) := by omega
  clear hS m1 m2 hU hV cy0 cy1 cz0 cz1 hop
  go_enter Tryz.func75, Tryz.ntmps75
  go_wp2_with fail
  generalize (w.alloc (.cells #[.int .i64 t.op, .int .i64 t.x, .int .i64 t.y, .int .i64 t.z] 114)).alloc (.cells #[.bool false, .slice none 0 0] 116) = W at *
  have hRd : Nmb W.drew (w.heap.size + 1) false (.slice none 0 0) := hR
  have hmWd : Mod (fun _ => False) W W.drew := (Mod.refl _ W).drew
  have HU : Hid (Nm W.drew nx (.slice ao a.length acap) a) := hU3.mod hmWd
  have HV : Hid (Nm W.drew ny (.slice bo b.length bcap) b) := hV3.mod hmWd
  clear hU3 hV3
  go_region_held3 (fun w' => w'.cell? ⟨w.heap.size, 2, none⟩ = some (.int .i64 t.y) ∧ w'.cell? ⟨w.heap.size, 3, none⟩ = some (.int .i64 t.z) ∧ w'.cell? ⟨gr, t.y * 2, none⟩ = some (.bool nx) ∧ w'.cell? ⟨gr, t.y * 2 + 1, none⟩ = some (.slice ao a.length acap) ∧ w'.cell? ⟨gr, t.z * 2, none⟩ = some (.bool ny) ∧ w'.cell? ⟨gr, t.z * 2 + 1, none⟩ = some (.slice bo b.length bcap))
    (first | go_keep | (exact hkeep) | (exact hkeep2))
    ((go_at_call 120; refine (times_any nx ny (.slice ao a.length acap) (.slice bo b.length bcap) a b W.drew HU.out HV.out (by omega) (by omega)).mono ?_; rintro e w4 ⟨hm4, nb, v4, l4, rfl, hN4, hx4, hl4⟩; have hR4 := hRd.keep hm4 (fun f => f); have r0 := hR4.c0; have r1 := hR4.c1; have f0 := hR4.fz 0; have f1 := hR4.fz 1; obtain ⟨vo4, vcap4, rfl, -⟩ := owns_form hN4.2; have hkeep := And.intro (hm4.cell (a := W.drew) e2) (And.intro (hm4.cell (a := W.drew) e3) (And.intro (hm4.cell (a := W.drew) d0) (And.intro (hm4.cell (a := W.drew) d1) (And.intro (hm4.cell (a := W.drew) d2) (hm4.cell (a := W.drew) d3))))); have hkeep2 := And.intro ((set2_cell (w.heap.size + 1) w4 (.bool nb) (.slice vo4 l4.length vcap4) w.heap.size 2 (by omega)).trans hkeep.1) (And.intro ((set2_cell (w.heap.size + 1) w4 (.bool nb) (.slice vo4 l4.length vcap4) w.heap.size 3 (by omega)).trans hkeep.2.1) (And.intro ((set2_cell (w.heap.size + 1) w4 (.bool nb) (.slice vo4 l4.length vcap4) gr (t.y * 2) (by omega)).trans hkeep.2.2.1) (And.intro ((set2_cell (w.heap.size + 1) w4 (.bool nb) (.slice vo4 l4.length vcap4) gr (t.y * 2 + 1) (by omega)).trans hkeep.2.2.2.1) (And.intro ((set2_cell (w.heap.size + 1) w4 (.bool nb) (.slice vo4 l4.length vcap4) gr (t.z * 2) (by omega)).trans hkeep.2.2.2.2.1) ((set2_cell (w.heap.size + 1) w4 (.bool nb) (.slice vo4 l4.length vcap4) gr (t.z * 2 + 1) (by omega)).trans hkeep.2.2.2.2.2)))))))
  have hR5 := hR4.set nb (.slice vo4 l4.length vcap4)
  have q0 := hR5.c0
  have q1 := hR5.c1
  have hmE := hmW.drew.trans hm4
  have hmF : Mod (fun _ => False) w ((w4.setCell ⟨w.heap.size + 1, 0, none⟩ (.bool nb)).setCell ⟨w.heap.size + 1, 1, none⟩ (.slice vo4 l4.length vcap4)) := ((hmE.mono (q := fun i => i = w.heap.size + 1) (fun _ _ f => f.elim)).trans (mod_set2 _ _ _ _)).mono (fun i hi h => by omega)
  have HNE : Hid (NumEnd w (num nx a * num ny b) (a.length + b.length + 4) (.returned (nm2 nb (.slice vo4 l4.length vcap4))) ((w4.setCell ⟨w.heap.size + 1, 0, none⟩ (.bool nb)).setCell ⟨w.heap.size + 1, 1, none⟩ (.slice vo4 l4.length vcap4))) :=
    numEnd (l := l4) hmF ⟨hN4.1, owns_set2 hN4.2 hR4 _ _⟩ hx4 (by omega)
  clear hN4 hx4 hmE hm4
  go_wp2_with fail
  exact bodyPost_ret (by simp [results, Tryz.results75, go_sem, q0, q1]) rfl HNE.out
end Go.Proofs.YtmnfndpbblpjiaaGreatDoor

/- The document's value: an input, a constant, a register's sign. -/
namespace Go.Proofs.YtmnfndpbblpjiaaGreatDoor
open Go.RowKit Pu
set_option maxHeartbeats 1600000 in
set_option maxRecDepth 100000 in
theorem value_con (t : Stp) (rv iv : Value) (w : World) (hs : Small t) (hop : t.op = 1)  :
    Calls Tryz.prog 75 #[st4 t, rv, iv] w (NumEnd w ((t.y : Int)) 1) := by
  obtain ⟨s0, s1, s2, s3⟩ := hs
  have hS := stb_new w t
  have hR := nmb_new (w.alloc (.cells #[.int .i64 t.op, .int .i64 t.x, .int .i64 t.y, .int .i64 t.z] 114)) false (.slice none 0 0)
  have m1 : Mod (fun _ => False) w (w.alloc (.cells #[.int .i64 t.op, .int .i64 t.x, .int .i64 t.y, .int .i64 t.z] 114)) := (Mod.refl _ w).alloc _
  have m2 : Mod (fun _ => False) (w.alloc (.cells #[.int .i64 t.op, .int .i64 t.x, .int .i64 t.y, .int .i64 t.z] 114)) ((w.alloc (.cells #[.int .i64 t.op, .int .i64 t.x, .int .i64 t.y, .int .i64 t.z] 114)).alloc (.cells #[.bool false, .slice none 0 0] 116)) := (Mod.refl _ _).alloc _
  have hS2 : Stb ((w.alloc (.cells #[.int .i64 t.op, .int .i64 t.x, .int .i64 t.y, .int .i64 t.z] 114)).alloc (.cells #[.bool false, .slice none 0 0] 116)) w.heap.size t := m2.keep hS (fun f => f)
  have hmW := m1.trans m2
  simp only [World.size_alloc] at hR
  have o0 : ((t.op : Int) == 0) = false := beq_f (m := 0) (by omega)
  have o1 : ((t.op : Int) == 1) = true := beq_t (m := 1) (by omega)
  have o2 : ((t.op : Int) == 2) = false := beq_f (m := 2) (by omega)
  have o3 : ((t.op : Int) == 3) = false := beq_f (m := 3) (by omega)
  have o4 : ((t.op : Int) == 4) = false := beq_f (m := 4) (by omega)
  have e0 := hS2.c0
  have e2 := hS2.c2
  clear hS m1 m2 hop
  go_enter Tryz.func75, Tryz.ntmps75
  go_wp2_with fail
  generalize (w.alloc (.cells #[.int .i64 t.op, .int .i64 t.x, .int .i64 t.y, .int .i64 t.z] 114)).alloc (.cells #[.bool false, .slice none 0 0] 116) = W at *
  refine (of_any (t.y : Int) W (by omega) (by omega)).mono ?_
  rintro e w4 ⟨hm4, nb, v4, l4, rfl, hN4, hx4, hl4⟩
  have hR4 := hR.keep hm4 (fun f => f)
  have r0 := hR4.c0
  have r1 := hR4.c1
  have f0 := hR4.fz 0
  have f1 := hR4.fz 1
  obtain ⟨vo4, vcap4, rfl, -⟩ := owns_form hN4.2
  have hR5 := hR4.set nb (.slice vo4 l4.length vcap4)
  have q0 := hR5.c0
  have q1 := hR5.c1
  have hmE := hmW.trans hm4
  have hmF : Mod (fun _ => False) w ((w4.setCell ⟨w.heap.size + 1, 0, none⟩ (.bool nb)).setCell ⟨w.heap.size + 1, 1, none⟩ (.slice vo4 l4.length vcap4)) := ((hmE.mono (q := fun i => i = w.heap.size + 1) (fun _ _ f => f.elim)).trans (mod_set2 _ _ _ _)).mono (fun i hi h => by omega)
  have HNE : Hid (NumEnd w ((t.y : Int)) 1 (.returned (nm2 nb (.slice vo4 l4.length vcap4))) ((w4.setCell ⟨w.heap.size + 1, 0, none⟩ (.bool nb)).setCell ⟨w.heap.size + 1, 1, none⟩ (.slice vo4 l4.length vcap4))) :=
    numEnd (l := l4) hmF ⟨hN4.1, owns_set2 hN4.2 hR4 _ _⟩ hx4 (by omega)
  clear hN4 hx4 hmE hm4
  go_wp2_with fail
  exact bodyPost_ret (by simp [results, Tryz.results75, go_sem, q0, q1]) rfl HNE.out
set_option maxHeartbeats 1600000 in
set_option maxRecDepth 100000 in
theorem value_in (t : Stp) (rv : Value) (gi n icap : Nat) (x : Int) (w : World) (hs : Small t) (hop : t.op = 0) (hy : t.y < n) (_hn : n ≤ 1000) (h1 : -100 < x) (h2 : x < 100) (cy : w.cell? ⟨gi, t.y, none⟩ = some (.int .i64 x)) :
    Calls Tryz.prog 75 #[st4 t, rv, .slice (some ⟨gi, 0, none⟩) n icap] w (NumEnd w (x) 1) := by
  obtain ⟨s0, s1, s2, s3⟩ := hs
  have hS := stb_new w t
  have hR := nmb_new (w.alloc (.cells #[.int .i64 t.op, .int .i64 t.x, .int .i64 t.y, .int .i64 t.z] 114)) false (.slice none 0 0)
  have m1 : Mod (fun _ => False) w (w.alloc (.cells #[.int .i64 t.op, .int .i64 t.x, .int .i64 t.y, .int .i64 t.z] 114)) := (Mod.refl _ w).alloc _
  have m2 : Mod (fun _ => False) (w.alloc (.cells #[.int .i64 t.op, .int .i64 t.x, .int .i64 t.y, .int .i64 t.z] 114)) ((w.alloc (.cells #[.int .i64 t.op, .int .i64 t.x, .int .i64 t.y, .int .i64 t.z] 114)).alloc (.cells #[.bool false, .slice none 0 0] 116)) := (Mod.refl _ _).alloc _
  have hS2 : Stb ((w.alloc (.cells #[.int .i64 t.op, .int .i64 t.x, .int .i64 t.y, .int .i64 t.z] 114)).alloc (.cells #[.bool false, .slice none 0 0] 116)) w.heap.size t := m2.keep hS (fun f => f)
  have hmW := m1.trans m2
  have d0 := hmW.cell cy
  have i1 : (0 : Int) ≤ (t.y : Int) := by omega
  have i2 : (t.y : Int) < (n : Int) := by omega
  clear cy
  simp only [World.size_alloc] at hR
  have o0 : ((t.op : Int) == 0) = true := beq_t (m := 0) (by omega)
  have o1 : ((t.op : Int) == 1) = false := beq_f (m := 1) (by omega)
  have o2 : ((t.op : Int) == 2) = false := beq_f (m := 2) (by omega)
  have o3 : ((t.op : Int) == 3) = false := beq_f (m := 3) (by omega)
  have o4 : ((t.op : Int) == 4) = false := beq_f (m := 4) (by omega)
  have e0 := hS2.c0
  have e2 := hS2.c2
  clear hS m1 m2 hop
  go_enter Tryz.func75, Tryz.ntmps75
  go_wp2_with fail
  generalize (w.alloc (.cells #[.int .i64 t.op, .int .i64 t.x, .int .i64 t.y, .int .i64 t.z] 114)).alloc (.cells #[.bool false, .slice none 0 0] 116) = W at *
  refine (of_any x W (by omega) (by omega)).mono ?_
  rintro e w4 ⟨hm4, nb, v4, l4, rfl, hN4, hx4, hl4⟩
  have hR4 := hR.keep hm4 (fun f => f)
  have r0 := hR4.c0
  have r1 := hR4.c1
  have f0 := hR4.fz 0
  have f1 := hR4.fz 1
  obtain ⟨vo4, vcap4, rfl, -⟩ := owns_form hN4.2
  have hR5 := hR4.set nb (.slice vo4 l4.length vcap4)
  have q0 := hR5.c0
  have q1 := hR5.c1
  have hmE := hmW.trans hm4
  have hmF : Mod (fun _ => False) w ((w4.setCell ⟨w.heap.size + 1, 0, none⟩ (.bool nb)).setCell ⟨w.heap.size + 1, 1, none⟩ (.slice vo4 l4.length vcap4)) := ((hmE.mono (q := fun i => i = w.heap.size + 1) (fun _ _ f => f.elim)).trans (mod_set2 _ _ _ _)).mono (fun i hi h => by omega)
  have HNE : Hid (NumEnd w (x) 1 (.returned (nm2 nb (.slice vo4 l4.length vcap4))) ((w4.setCell ⟨w.heap.size + 1, 0, none⟩ (.bool nb)).setCell ⟨w.heap.size + 1, 1, none⟩ (.slice vo4 l4.length vcap4))) :=
    numEnd (l := l4) hmF ⟨hN4.1, owns_set2 hN4.2 hR4 _ _⟩ hx4 (by omega)
  clear hN4 hx4 hmE hm4
  go_wp2_with fail
  exact bodyPost_ret (by simp [results, Tryz.results75, go_sem, q0, q1]) rfl HNE.out
set_option maxHeartbeats 1600000 in
set_option maxRecDepth 100000 in
theorem value_sgn (t : Stp) (gr rn rcap : Nat) (iv : Value) (nx : Bool) (u : Value) (a : List Nat) (w : World) (hs : Small t) (hop : 5 ≤ t.op) (hy : t.y < rn) (_hrn : rn ≤ 128) (cy0 : w.cell? ⟨gr, t.y * 2, none⟩ = some (.bool nx)) (cy1 : w.cell? ⟨gr, t.y * 2 + 1, none⟩ = some u) (hU : Nm w nx u a) (la : a.length ≤ 50000) :
    Calls Tryz.prog 75 #[st4 t, .slice (some ⟨gr, 0, none⟩) rn rcap, iv] w (NumEnd w (sgI (num nx a)) 1) := by
  obtain ⟨s0, s1, s2, s3⟩ := hs
  have hS := stb_new w t
  have hR := nmb_new (w.alloc (.cells #[.int .i64 t.op, .int .i64 t.x, .int .i64 t.y, .int .i64 t.z] 114)) false (.slice none 0 0)
  have m1 : Mod (fun _ => False) w (w.alloc (.cells #[.int .i64 t.op, .int .i64 t.x, .int .i64 t.y, .int .i64 t.z] 114)) := (Mod.refl _ w).alloc _
  have m2 : Mod (fun _ => False) (w.alloc (.cells #[.int .i64 t.op, .int .i64 t.x, .int .i64 t.y, .int .i64 t.z] 114)) ((w.alloc (.cells #[.int .i64 t.op, .int .i64 t.x, .int .i64 t.y, .int .i64 t.z] 114)).alloc (.cells #[.bool false, .slice none 0 0] 116)) := (Mod.refl _ _).alloc _
  have hS2 : Stb ((w.alloc (.cells #[.int .i64 t.op, .int .i64 t.x, .int .i64 t.y, .int .i64 t.z] 114)).alloc (.cells #[.bool false, .slice none 0 0] 116)) w.heap.size t := m2.keep hS (fun f => f)
  have hmW := m1.trans m2
  obtain ⟨ao, acap, rfl, -⟩ := owns_form hU.2
  have hU3 := hU.mod hmW
  have d0 := hmW.cell cy0
  have d1 := hmW.cell cy1
  have i1 : (0 : Int) ≤ (t.y : Int) := by omega
  have i2 : (t.y : Int) < (rn : Int) := by omega
  have hg1 : -1 ≤ sgI (num nx a) := by
    unfold sgI; repeat' split
    all_goals omega
  have hg2 : sgI (num nx a) ≤ 1 := by
    unfold sgI; repeat' split
    all_goals omega
  clear cy0 cy1 hU
  simp only [World.size_alloc] at hR
  have o0 : ((t.op : Int) == 0) = false := beq_f (m := 0) (by omega)
  have o1 : ((t.op : Int) == 1) = false := beq_f (m := 1) (by omega)
  have o2 : ((t.op : Int) == 2) = false := beq_f (m := 2) (by omega)
  have o3 : ((t.op : Int) == 3) = false := beq_f (m := 3) (by omega)
  have o4 : ((t.op : Int) == 4) = false := beq_f (m := 4) (by omega)
  have e0 := hS2.c0
  have e2 := hS2.c2
  clear hS m1 m2 hop
  go_enter Tryz.func75, Tryz.ntmps75
  go_wp2_with fail
  generalize (w.alloc (.cells #[.int .i64 t.op, .int .i64 t.x, .int .i64 t.y, .int .i64 t.z] 114)).alloc (.cells #[.bool false, .slice none 0 0] 116) = W at *
  refine (sign_any nx (.slice ao a.length acap) a W hU3 (by omega)).mono ?_
  rintro e w3 ⟨rfl, hm3⟩
  replace hR := hR.keep hm3 (fun f => f)
  replace hmW := hmW.trans hm3
  clear hm3
  go_wp2_with fail
  refine (of_any (sgI (num nx a)) w3 (by omega) (by omega)).mono ?_
  rintro e w4 ⟨hm4, nb, v4, l4, rfl, hN4, hx4, hl4⟩
  have hR4 := hR.keep hm4 (fun f => f)
  have r0 := hR4.c0
  have r1 := hR4.c1
  have f0 := hR4.fz 0
  have f1 := hR4.fz 1
  obtain ⟨vo4, vcap4, rfl, -⟩ := owns_form hN4.2
  have hR5 := hR4.set nb (.slice vo4 l4.length vcap4)
  have q0 := hR5.c0
  have q1 := hR5.c1
  have hmE := hmW.trans hm4
  have hmF : Mod (fun _ => False) w ((w4.setCell ⟨w.heap.size + 1, 0, none⟩ (.bool nb)).setCell ⟨w.heap.size + 1, 1, none⟩ (.slice vo4 l4.length vcap4)) := ((hmE.mono (q := fun i => i = w.heap.size + 1) (fun _ _ f => f.elim)).trans (mod_set2 _ _ _ _)).mono (fun i hi h => by omega)
  have HNE : Hid (NumEnd w (sgI (num nx a)) 1 (.returned (nm2 nb (.slice vo4 l4.length vcap4))) ((w4.setCell ⟨w.heap.size + 1, 0, none⟩ (.bool nb)).setCell ⟨w.heap.size + 1, 1, none⟩ (.slice vo4 l4.length vcap4))) :=
    numEnd (l := l4) hmF ⟨hN4.1, owns_set2 hN4.2 hR4 _ _⟩ hx4 (by omega)
  clear hN4 hx4 hmE hm4
  go_wp2_with fail
  exact bodyPost_ret (by simp [results, Tryz.results75, go_sem, q0, q1]) rfl HNE.out
end Go.Proofs.YtmnfndpbblpjiaaGreatDoor

/- The document's registers, and its value of any right step. -/
namespace Go.Proofs.YtmnfndpbblpjiaaGreatDoor
open Go.RowKit Pu
/-- The registers in memory: each number of at most 2000 digits of base 10000. -/
def Rgs (w : World) (rb : Nat) (R : List Int) : Prop := R.length = 128 ∧ (∃ C, w.heap[rb]? = some (.cells C 116 (0, 0)) ∧ C.size = 256) ∧
  ∀ r, r < 128 → ∃ nx u a, w.cell? ⟨rb, r * 2, none⟩ = some (.bool nx) ∧ w.cell? ⟨rb, r * 2 + 1, none⟩ = some u ∧ Nm w nx u a ∧ num nx a = reg R r ∧ a.length ≤ 2000
theorem Rgs.mod {w w' : World} {rb : Nat} {R : List Int} (h : Rgs w rb R) (hm : Mod (fun _ => False) w w') : Rgs w' rb R := by
  obtain ⟨h1, ⟨C, h2, h3⟩, h4⟩ := h
  refine ⟨h1, ⟨C, hm.keep h2 (fun f => f), h3⟩, fun r hr => ?_⟩
  obtain ⟨nx, u, a, c0, c1, hN, hx, hl⟩ := h4 r hr
  exact ⟨nx, u, a, hm.cell c0, hm.cell c1, hN.mod hm, hx, hl⟩
theorem Rgs.lt {w : World} {rb : Nat} {R : List Int} (h : Rgs w rb R) : rb < w.heap.size := by
  obtain ⟨C, h2, -⟩ := h.2.1
  exact lt_of_block h2
theorem Rgs.fz {w : World} {rb : Nat} {R : List Int} (h : Rgs w rb R) (i : Nat) : w.frozen? ⟨rb, i, none⟩ = false := by
  obtain ⟨C, h2, -⟩ := h.2.1
  simp [World.frozen?, h2]
/-- Two cells of a block set. -/
def set2at (w : World) (b o : Nat) (x y : Value) : World := (w.setCell ⟨b, o, none⟩ x).setCell ⟨b, o + 1, none⟩ y
theorem set2at_own (w : World) (b o : Nat) (x y : Value) : Mod (fun q => q = b) w (set2at w b o x y) := by
  have h0 : Mod (fun q => q = b) w (w.setCell ⟨b, o, none⟩ x) := (Mod.refl _ w).setCell ⟨b, o, none⟩ x (fun _ => rfl)
  exact h0.setCell ⟨b, o + 1, none⟩ y (fun _ => rfl)
theorem set2at_new {p : Nat → Prop} {a w : World} (h : Mod p a w) (b o : Nat) (x y : Value) (hb : a.heap.size ≤ b) : Mod p a (set2at w b o x y) := by
  have h0 := h.setCell ⟨b, o, none⟩ x (fun h => absurd h (Nat.not_lt.2 hb))
  exact h0.setCell ⟨b, o + 1, none⟩ y (fun h => absurd h (Nat.not_lt.2 hb))
theorem set2at_block {w : World} {b o : Nat} {x y : Value} {C : Array Value} {t : TypeId} (h : w.heap[b]? = some (.cells C t (0, 0))) : (set2at w b o x y).heap[b]? = some (.cells ((C.setIfInBounds o x).setIfInBounds (o + 1) y) t (0, 0)) := by
  have h0 : (w.setCell ⟨b, o, none⟩ x).heap[b]? = some (.cells (C.setIfInBounds o x) t (0, 0)) := by simp [World.setCell, Array.getElem?_modify, h]
  unfold set2at
  generalize w.setCell ⟨b, o, none⟩ x = w1 at *
  simp [World.setCell, Array.getElem?_modify, h0]
theorem set2at_cell {w : World} {b o : Nat} {x y : Value} {C : Array Value} {t : TypeId} (h : w.heap[b]? = some (.cells C t (0, 0))) (i : Nat) : (set2at w b o x y).cell? ⟨b, i, none⟩ = if i = o + 1 ∧ i < C.size then some y else if i = o ∧ i < C.size then some x else w.cell? ⟨b, i, none⟩ := by
  have e : (set2at w b o x y).cell? ⟨b, i, none⟩ = ((C.setIfInBounds o x).setIfInBounds (o + 1) y)[i]? := by simp only [World.cell?, set2at_block h]; simp
  have e2 : w.cell? ⟨b, i, none⟩ = C[i]? := by simp only [World.cell?, h]; simp
  rw [e, e2, Array.getElem?_setIfInBounds, Array.getElem?_setIfInBounds]
  by_cases a : i = o + 1
  · subst a
    by_cases hs : o + 1 < C.size <;> simp [hs]
  · by_cases c : i = o
    · subst c
      by_cases hs : i < C.size <;> simp [hs]
    · simp [a, c, show ¬ o + 1 = i from fun hh => a hh.symm, show ¬ o = i from fun hh => c hh.symm]
theorem Nm.apart {w w' : World} {rb : Nat} {nx : Bool} {u : Value} {a : List Nat} (h : Nm w nx u a) (hm : Mod (fun q => q = rb) w w') {C : Array Value} (hb : w.heap[rb]? = some (.cells C 116 (0, 0))) : Nm w' nx u a := by
  refine ⟨h.1, owns_mod' h.2 hm (fun g h1 h2 => ?_)⟩
  subst h2
  obtain ⟨_, ⟨rfl, _⟩ | ⟨g', cap, cur, rfl, _, hg, _⟩⟩ := h.2
  · simp [Value.ownBlock] at h1
  · simp [Value.ownBlock] at h1
    subst h1
    rw [hb] at hg
    simp at hg
theorem Rgs.set {w : World} {rb : Nat} {R : List Int} {nb : Bool} {v : Value} {l : List Nat} (h : Rgs w rb R) {x : Nat} (hx : x < 128) (hN : Nm w nb v l) (hl : l.length ≤ 2000) : Rgs (set2at w rb (x * 2) (.bool nb) v) rb (R.set x (num nb l)) := by
  obtain ⟨h1, ⟨C, h2, h3⟩, h4⟩ := h
  refine ⟨by simpa using h1, ⟨_, set2at_block h2, by simpa using h3⟩, fun r hr => ?_⟩
  have hm := set2at_own w rb (x * 2) (.bool nb) v
  rw [set2at_cell h2, set2at_cell h2]
  by_cases e : r = x
  · subst e
    refine ⟨nb, v, l, by rw [if_neg (by omega), if_pos (by omega)], by rw [if_pos (by omega)], hN.apart hm h2, ?_, hl⟩
    simp [reg, h1, hr]
  · obtain ⟨nx, u, a, c0, c1, hN', hx', hl'⟩ := h4 r hr
    refine ⟨nx, u, a, by rw [if_neg (by omega), if_neg (by omega)]; exact c0, by rw [if_neg (by omega), if_neg (by omega)]; exact c1, hN'.apart hm h2, ?_, hl'⟩
    rw [hx']
    simp [reg, show ¬ x = r from fun hh => e hh.symm]
/-- What a step of a right code keeps to. -/
def Good (n : Nat) (t : Stp) : Prop := Small t ∧ t.op ≤ 7 ∧ t.x < 128 ∧ (2 ≤ t.op ∧ t.op ≤ 5 → t.y < 128) ∧ (2 ≤ t.op ∧ t.op ≤ 4 → t.z < 128) ∧ (t.op = 0 → t.y < n) ∧ (t.op = 7 → t.y < 3 ∧ t.z < 16)
theorem Pu.sgn_eq (x : Int) : sgn x = sgI x := rfl
theorem value_any (t : Stp) (rb rcap : Nat) (iv : Value) (R ins : List Int) (base : Nat) (w : World) (hg : Good ins.length t) (hop : t.op < 6) (hR : Rgs w rb R) (hI : w.ownsRow base 3 1 iv ins.length (zvs ins)) (hn : ins.length ≤ 1000) (hi : ∀ x ∈ ins, -100 < x ∧ x < 100) :
    Calls Tryz.prog 75 #[st4 t, .slice (some ⟨rb, 0, none⟩) 128 rcap, iv] w (NumEnd w (Pu.valOf t R ins) 4004) := by
  obtain ⟨hs, -, -, hy, hz, h0, -⟩ := hg
  have hlt := hR.lt
  have hb : ∀ {x : Int} {n : Nat} (_ : n ≤ 4004) (e : Ending) (w' : World), NumEnd w x n e w' → NumEnd w x 4004 e w' := fun hn e w' h => by
    obtain ⟨hm, nb, v', l, he, hN, hx, hl⟩ := h
    exact ⟨hm, nb, v', l, he, hN, hx, Nat.le_trans hl hn⟩
  have hc : t.op = 0 ∨ t.op = 1 ∨ t.op = 2 ∨ t.op = 3 ∨ t.op = 4 ∨ t.op = 5 := by omega
  rcases hc with e | e | e | e | e | e
  · have hyl : t.y < ins.length := h0 e
    obtain ⟨io, icap, rfl, -⟩ := owns_form hI
    obtain ⟨gi, rfl, ci⟩ := zvs_cell hI rfl hyl
    obtain ⟨b1, b2⟩ := hi _ (List.getElem_mem hyl)
    have := value_in t (.slice (some ⟨rb, 0, none⟩) 128 rcap) gi ins.length icap ins[t.y] w hs e hyl hn b1 b2 ci
    rw [show Pu.valOf t R ins = ins[t.y] by simp [Pu.valOf, e, hyl]]
    exact this.mono (hb (by omega))
  · rw [show Pu.valOf t R ins = (t.y : Int) by simp [Pu.valOf, e]]
    exact (value_con t _ iv w hs e).mono (hb (by omega))
  · obtain ⟨nx, u, a, c0, c1, hU, hx, la⟩ := hR.2.2 t.y (hy (by omega))
    obtain ⟨ny, v, b, d0, d1, hV, hx', lb⟩ := hR.2.2 t.z (hz (by omega))
    rw [show Pu.valOf t R ins = num nx a + num ny b by simp [Pu.valOf, e, hx, hx']]
    exact (value_add t rb 128 rcap iv nx ny u v a b w hs e (hy (by omega)) (hz (by omega)) (by omega) hlt c0 c1 d0 d1 hU hV (by omega) (by omega)).mono (hb (by omega))
  · obtain ⟨nx, u, a, c0, c1, hU, hx, la⟩ := hR.2.2 t.y (hy (by omega))
    obtain ⟨ny, v, b, d0, d1, hV, hx', lb⟩ := hR.2.2 t.z (hz (by omega))
    rw [show Pu.valOf t R ins = num nx a - num ny b by simp [Pu.valOf, e, hx, hx']]
    exact (value_sub t rb 128 rcap iv nx ny u v a b w hs e (hy (by omega)) (hz (by omega)) (by omega) hlt c0 c1 d0 d1 hU hV (by omega) (by omega)).mono (hb (by omega))
  · obtain ⟨nx, u, a, c0, c1, hU, hx, la⟩ := hR.2.2 t.y (hy (by omega))
    obtain ⟨ny, v, b, d0, d1, hV, hx', lb⟩ := hR.2.2 t.z (hz (by omega))
    rw [show Pu.valOf t R ins = num nx a * num ny b by simp [Pu.valOf, e, hx, hx']]
    exact (value_mul t rb 128 rcap iv nx ny u v a b w hs e (hy (by omega)) (hz (by omega)) (by omega) hlt c0 c1 d0 d1 hU hV (by omega) (by omega)).mono (hb (by omega))
  · obtain ⟨nx, u, a, c0, c1, hU, hx, la⟩ := hR.2.2 t.y (hy (by omega))
    rw [show Pu.valOf t R ins = sgI (num nx a) by simp [Pu.valOf, e, hx, sgn_eq]]
    exact (value_sgn t rb 128 rcap iv nx u a w hs (by omega) (hy (by omega)) (by omega) c0 c1 hU (by omega)).mono (hb (by omega))
end Go.Proofs.YtmnfndpbblpjiaaGreatDoor
