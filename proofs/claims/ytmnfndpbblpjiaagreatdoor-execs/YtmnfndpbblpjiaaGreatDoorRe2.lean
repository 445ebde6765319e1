/- The document's value: an input, a constant, a register's sign. -/
import Derived.Test.YtmnfndpbblpjiaaGreatDoorRn6
import Derived.Test.YtmnfndpbblpjiaaGreatDoorRe1
namespace Go.Proofs.YtmnfndpbblpjiaaGreatDoor
open Go.RowKit Pu

set_option maxHeartbeats 1600000 in
set_option maxRecDepth 100000 in
theorem value_con (t : Stp) (rv iv : Value) (w : World) (hs : Small t) (hop : t.op = 1)  :
    Calls Tryz.prog 75 #[st4 t, rv, iv] w (NumEnd w ((t.y : Int)) 1) := by
  obtain ⟨s0, s1, s2, s3⟩ := hs
  have hS := stb_new w t
  have hR := nmb_new (w.alloc (.cells #[.int .i64 t.op, .int .i64 t.x, .int .i64 t.y, .int .i64 t.z] 114)) false (.slice none 0 0)
  have m1 : Mod (fun _ => False) w (w.alloc (.cells #[.int .i64 t.op, .int .i64 t.x, .int .i64 t.y, .int .i64 t.z] 114)) := (Mod.refl _ w).alloc _
  have m2 : Mod (fun _ => False) (w.alloc (.cells #[.int .i64 t.op, .int .i64 t.x, .int .i64 t.y, .int .i64 t.z] 114)) ((w.alloc (.cells #[.int .i64 t.op, .int .i64 t.x, .int .i64 t.y, .int .i64 t.z] 114)).alloc (.cells #[.bool false, .slice none 0 0] 116)) := (Mod.refl _ _).alloc _
  have hS2 : Stb ((w.alloc (.cells #[.int .i64 t.op, .int .i64 t.x, .int .i64 t.y, .int .i64 t.z] 114)).alloc (.cells #[.bool false, .slice none 0 0] 116)) w.heap.size t := m2.keep hS (fun f => f)
  have hmW := m1.trans m2
  simp only [World.size_alloc] at hR
  have o0 : ((t.op : Int) == 0) = false := beq_f (m := 0) (by omega)
  have o1 : ((t.op : Int) == 1) = true := beq_t (m := 1) (by omega)
  have o2 : ((t.op : Int) == 2) = false := beq_f (m := 2) (by omega)
  have o3 : ((t.op : Int) == 3) = false := beq_f (m := 3) (by omega)
  have o4 : ((t.op : Int) == 4) = false := beq_f (m := 4) (by omega)
  have e0 := hS2.c0
  have e2 := hS2.c2
  clear hS m1 m2 hop
  go_enter Tryz.func75, Tryz.ntmps75
  go_wp2_with fail
  generalize (w.alloc (.cells #[.int .i64 t.op, .int .i64 t.x, .int .i64 t.y, .int .i64 t.z] 114)).alloc (.cells #[.bool false, .slice none 0 0] 116) = W at *
  refine (of_any (t.y : Int) W (by omega) (by omega)).mono ?_
  rintro e w4 ⟨hm4, nb, v4, l4, rfl, hN4, hx4, hl4⟩
  have hR4 := hR.keep hm4 (fun f => f)
  have r0 := hR4.c0
  have r1 := hR4.c1
  have f0 := hR4.fz 0
  have f1 := hR4.fz 1
  obtain ⟨vo4, vcap4, rfl, -⟩ := owns_form hN4.2
  have hR5 := hR4.set nb (.slice vo4 l4.length vcap4)
  have q0 := hR5.c0
  have q1 := hR5.c1
  have hmE := hmW.trans hm4
  have hmF : Mod (fun _ => False) w ((w4.setCell ⟨w.heap.size + 1, 0, none⟩ (.bool nb)).setCell ⟨w.heap.size + 1, 1, none⟩ (.slice vo4 l4.length vcap4)) := ((hmE.mono (q := fun i => i = w.heap.size + 1) (fun _ _ f => f.elim)).trans (mod_set2 _ _ _ _)).mono (fun i hi h => by omega)
  have HNE : Hid (NumEnd w ((t.y : Int)) 1 (.returned (nm2 nb (.slice vo4 l4.length vcap4))) ((w4.setCell ⟨w.heap.size + 1, 0, none⟩ (.bool nb)).setCell ⟨w.heap.size + 1, 1, none⟩ (.slice vo4 l4.length vcap4))) :=
    numEnd (l := l4) hmF ⟨hN4.1, owns_set2 hN4.2 hR4 _ _⟩ hx4 (by omega)
  clear hN4 hx4 hmE hm4
  go_wp2_with fail
  exact bodyPost_ret (by simp [results, Tryz.results75, go_sem, q0, q1]) rfl HNE.out

set_option maxHeartbeats 1600000 in
set_option maxRecDepth 100000 in
theorem value_in (t : Stp) (rv : Value) (gi n icap : Nat) (x : Int) (w : World) (hs : Small t) (hop : t.op = 0) (hy : t.y < n) (_hn : n ≤ 1000) (h1 : -100 < x) (h2 : x < 100) (cy : w.cell? ⟨gi, t.y, none⟩ = some (.int .i64 x)) :
    Calls Tryz.prog 75 #[st4 t, rv, .slice (some ⟨gi, 0, none⟩) n icap] w (NumEnd w (x) 1) := by
  obtain ⟨s0, s1, s2, s3⟩ := hs
  have hS := stb_new w t
  have hR := nmb_new (w.alloc (.cells #[.int .i64 t.op, .int .i64 t.x, .int .i64 t.y, .int .i64 t.z] 114)) false (.slice none 0 0)
  have m1 : Mod (fun _ => False) w (w.alloc (.cells #[.int .i64 t.op, .int .i64 t.x, .int .i64 t.y, .int .i64 t.z] 114)) := (Mod.refl _ w).alloc _
  have m2 : Mod (fun _ => False) (w.alloc (.cells #[.int .i64 t.op, .int .i64 t.x, .int .i64 t.y, .int .i64 t.z] 114)) ((w.alloc (.cells #[.int .i64 t.op, .int .i64 t.x, .int .i64 t.y, .int .i64 t.z] 114)).alloc (.cells #[.bool false, .slice none 0 0] 116)) := (Mod.refl _ _).alloc _
  have hS2 : Stb ((w.alloc (.cells #[.int .i64 t.op, .int .i64 t.x, .int .i64 t.y, .int .i64 t.z] 114)).alloc (.cells #[.bool false, .slice none 0 0] 116)) w.heap.size t := m2.keep hS (fun f => f)
  have hmW := m1.trans m2
  have d0 := hmW.cell cy
  have i1 : (0 : Int) ≤ (t.y : Int) := by omega
  have i2 : (t.y : Int) < (n : Int) := by omega
  clear cy
  simp only [World.size_alloc] at hR
  have o0 : ((t.op : Int) == 0) = true := beq_t (m := 0) (by omega)
  have o1 : ((t.op : Int) == 1) = false := beq_f (m := 1) (by omega)
  have o2 : ((t.op : Int) == 2) = false := beq_f (m := 2) (by omega)
  have o3 : ((t.op : Int) == 3) = false := beq_f (m := 3) (by omega)
  have o4 : ((t.op : Int) == 4) = false := beq_f (m := 4) (by omega)
  have e0 := hS2.c0
  have e2 := hS2.c2
  clear hS m1 m2 hop
  go_enter Tryz.func75, Tryz.ntmps75
  go_wp2_with fail
  generalize (w.alloc (.cells #[.int .i64 t.op, .int .i64 t.x, .int .i64 t.y, .int .i64 t.z] 114)).alloc (.cells #[.bool false, .slice none 0 0] 116) = W at *
  refine (of_any x W (by omega) (by omega)).mono ?_
  rintro e w4 ⟨hm4, nb, v4, l4, rfl, hN4, hx4, hl4⟩
  have hR4 := hR.keep hm4 (fun f => f)
  have r0 := hR4.c0
  have r1 := hR4.c1
  have f0 := hR4.fz 0
  have f1 := hR4.fz 1
  obtain ⟨vo4, vcap4, rfl, -⟩ := owns_form hN4.2
  have hR5 := hR4.set nb (.slice vo4 l4.length vcap4)
  have q0 := hR5.c0
  have q1 := hR5.c1
  have hmE := hmW.trans hm4
  have hmF : Mod (fun _ => False) w ((w4.setCell ⟨w.heap.size + 1, 0, none⟩ (.bool nb)).setCell ⟨w.heap.size + 1, 1, none⟩ (.slice vo4 l4.length vcap4)) := ((hmE.mono (q := fun i => i = w.heap.size + 1) (fun _ _ f => f.elim)).trans (mod_set2 _ _ _ _)).mono (fun i hi h => by omega)
  have HNE : Hid (NumEnd w (x) 1 (.returned (nm2 nb (.slice vo4 l4.length vcap4))) ((w4.setCell ⟨w.heap.size + 1, 0, none⟩ (.bool nb)).setCell ⟨w.heap.size + 1, 1, none⟩ (.slice vo4 l4.length vcap4))) :=
    numEnd (l := l4) hmF ⟨hN4.1, owns_set2 hN4.2 hR4 _ _⟩ hx4 (by omega)
  clear hN4 hx4 hmE hm4
  go_wp2_with fail
  exact bodyPost_ret (by simp [results, Tryz.results75, go_sem, q0, q1]) rfl HNE.out

set_option maxHeartbeats 1600000 in
set_option maxRecDepth 100000 in
theorem value_sgn (t : Stp) (gr rn rcap : Nat) (iv : Value) (nx : Bool) (u : Value) (a : List Nat) (w : World) (hs : Small t) (hop : 5 ≤ t.op) (hy : t.y < rn) (_hrn : rn ≤ 128) (cy0 : w.cell? ⟨gr, t.y * 2, none⟩ = some (.bool nx)) (cy1 : w.cell? ⟨gr, t.y * 2 + 1, none⟩ = some u) (hU : Nm w nx u a) (la : a.length ≤ 50000) :
    Calls Tryz.prog 75 #[st4 t, .slice (some ⟨gr, 0, none⟩) rn rcap, iv] w (NumEnd w (sgI (num nx a)) 1) := by
  obtain ⟨s0, s1, s2, s3⟩ := hs
  have hS := stb_new w t
  have hR := nmb_new (w.alloc (.cells #[.int .i64 t.op, .int .i64 t.x, .int .i64 t.y, .int .i64 t.z] 114)) false (.slice none 0 0)
  have m1 : Mod (fun _ => False) w (w.alloc (.cells #[.int .i64 t.op, .int .i64 t.x, .int .i64 t.y, .int .i64 t.z] 114)) := (Mod.refl _ w).alloc _
  have m2 : Mod (fun _ => False) (w.alloc (.cells #[.int .i64 t.op, .int .i64 t.x, .int .i64 t.y, .int .i64 t.z] 114)) ((w.alloc (.cells #[.int .i64 t.op, .int .i64 t.x, .int .i64 t.y, .int .i64 t.z] 114)).alloc (.cells #[.bool false, .slice none 0 0] 116)) := (Mod.refl _ _).alloc _
  have hS2 : Stb ((w.alloc (.cells #[.int .i64 t.op, .int .i64 t.x, .int .i64 t.y, .int .i64 t.z] 114)).alloc (.cells #[.bool false, .slice none 0 0] 116)) w.heap.size t := m2.keep hS (fun f => f)
  have hmW := m1.trans m2
  obtain ⟨ao, acap, rfl, -⟩ := owns_form hU.2
  have hU3 := hU.mod hmW
  have d0 := hmW.cell cy0
  have d1 := hmW.cell cy1
  have i1 : (0 : Int) ≤ (t.y : Int) := by omega
  have i2 : (t.y : Int) < (rn : Int) := by omega
  have hg1 : -1 ≤ sgI (num nx a) := by unfold sgI; repeat' split
                                       all_goals omega
  have hg2 : sgI (num nx a) ≤ 1 := by unfold sgI; repeat' split
                                      all_goals omega
  clear cy0 cy1 hU
  simp only [World.size_alloc] at hR
  have o0 : ((t.op : Int) == 0) = false := beq_f (m := 0) (by omega)
  have o1 : ((t.op : Int) == 1) = false := beq_f (m := 1) (by omega)
  have o2 : ((t.op : Int) == 2) = false := beq_f (m := 2) (by omega)
  have o3 : ((t.op : Int) == 3) = false := beq_f (m := 3) (by omega)
  have o4 : ((t.op : Int) == 4) = false := beq_f (m := 4) (by omega)
  have e0 := hS2.c0
  have e2 := hS2.c2
  clear hS m1 m2 hop
  go_enter Tryz.func75, Tryz.ntmps75
  go_wp2_with fail
  generalize (w.alloc (.cells #[.int .i64 t.op, .int .i64 t.x, .int .i64 t.y, .int .i64 t.z] 114)).alloc (.cells #[.bool false, .slice none 0 0] 116) = W at *
  refine (sign_any nx (.slice ao a.length acap) a W hU3 (by omega)).mono ?_
  rintro e w3 ⟨rfl, hm3⟩
  replace hR := hR.keep hm3 (fun f => f)
  replace hmW := hmW.trans hm3
  clear hm3
  go_wp2_with fail
  refine (of_any (sgI (num nx a)) w3 (by omega) (by omega)).mono ?_
  rintro e w4 ⟨hm4, nb, v4, l4, rfl, hN4, hx4, hl4⟩
  have hR4 := hR.keep hm4 (fun f => f)
  have r0 := hR4.c0
  have r1 := hR4.c1
  have f0 := hR4.fz 0
  have f1 := hR4.fz 1
  obtain ⟨vo4, vcap4, rfl, -⟩ := owns_form hN4.2
  have hR5 := hR4.set nb (.slice vo4 l4.length vcap4)
  have q0 := hR5.c0
  have q1 := hR5.c1
  have hmE := hmW.trans hm4
  have hmF : Mod (fun _ => False) w ((w4.setCell ⟨w.heap.size + 1, 0, none⟩ (.bool nb)).setCell ⟨w.heap.size + 1, 1, none⟩ (.slice vo4 l4.length vcap4)) := ((hmE.mono (q := fun i => i = w.heap.size + 1) (fun _ _ f => f.elim)).trans (mod_set2 _ _ _ _)).mono (fun i hi h => by omega)
  have HNE : Hid (NumEnd w (sgI (num nx a)) 1 (.returned (nm2 nb (.slice vo4 l4.length vcap4))) ((w4.setCell ⟨w.heap.size + 1, 0, none⟩ (.bool nb)).setCell ⟨w.heap.size + 1, 1, none⟩ (.slice vo4 l4.length vcap4))) :=
    numEnd (l := l4) hmF ⟨hN4.1, owns_set2 hN4.2 hR4 _ _⟩ hx4 (by omega)
  clear hN4 hx4 hmE hm4
  go_wp2_with fail
  exact bodyPost_ret (by simp [results, Tryz.results75, go_sem, q0, q1]) rfl HNE.out

end Go.Proofs.YtmnfndpbblpjiaaGreatDoor
