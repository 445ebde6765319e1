/- The document's numbers: Plus at all numbers, Minus. -/
import Derived.Test.YtmnfndpbblpjiaaGreatDoorRn3
namespace Go.Proofs.YtmnfndpbblpjiaaGreatDoor
open Go.RowKit Pu

set_option maxHeartbeats 1600000 in
set_option maxRecDepth 100000 in
theorem swap_tf (u v : Value) (a b : List Nat) (w : World) (hU : Nm w true u a) (hV : Nm w false v b) (la : a.length ≤ 50000) (lb : b.length ≤ 50000) (hlt : val a < val b) :
    Calls Tryz.prog 118 #[nm2 true u, nm2 false v] w (NumEnd w (num true a + num false b) (max a.length b.length + 4)) := by
  have ha := hU.1.1
  have hb := hV.1.1
  have hta := hU.1.2.1
  have htb := hV.1.2.1
  obtain ⟨ao, acap, rfl, -⟩ := owns_form hU.2
  obtain ⟨bo, bcap, rfl, -⟩ := owns_form hV.2
  have hX := nmb_new w true (.slice ao a.length acap)
  have hY := nmb_new (w.alloc (.cells #[.bool true, .slice ao a.length acap] 116)) false (.slice bo b.length bcap)
  have hR := nmb_new ((w.alloc (.cells #[.bool true, .slice ao a.length acap] 116)).alloc (.cells #[.bool false, .slice bo b.length bcap] 116)) false (.slice none 0 0)
  have m1 : Mod (fun _ => False) w (w.alloc (.cells #[.bool true, .slice ao a.length acap] 116)) := (Mod.refl _ w).alloc _
  have m2 : Mod (fun _ => False) (w.alloc (.cells #[.bool true, .slice ao a.length acap] 116)) ((w.alloc (.cells #[.bool true, .slice ao a.length acap] 116)).alloc (.cells #[.bool false, .slice bo b.length bcap] 116)) := (Mod.refl _ _).alloc _
  have m3 : Mod (fun _ => False) ((w.alloc (.cells #[.bool true, .slice ao a.length acap] 116)).alloc (.cells #[.bool false, .slice bo b.length bcap] 116)) (((w.alloc (.cells #[.bool true, .slice ao a.length acap] 116)).alloc (.cells #[.bool false, .slice bo b.length bcap] 116)).alloc (.cells #[.bool false, .slice none 0 0] 116)) := (Mod.refl _ _).alloc _
  have hX3 := (hX.keep m2 (fun f => f)).keep m3 (fun f => f)
  have hY3 := hY.keep m3 (fun f => f)
  have hmW := m1.trans (m2.trans m3)
  have hU3 := hU.mod hmW
  have hV3 := hV.mod hmW
  simp only [World.size_alloc] at hY3 hR
  clear hX hY m1 m2 m3 hU hV
  go_enter Tryz.func118, Tryz.ntmps118
  go_wp2_with fail
  refine (order_any _ _ a b _ hU3.2 hV3.2 ha hb hta htb (by omega) (by omega)).mono ?_
  rintro e W ⟨rfl, hm2⟩
  have hsgb : decide (sgI ((val a : Int) - (val b : Int)) < 0) = true := by
    unfold sgI; rw [if_pos (by omega)]; rfl
  have hX4 := hX3.keep hm2 (fun f => f)
  have hY4 := hY3.keep hm2 (fun f => f)
  have hR4 := hR.keep hm2 (fun f => f)
  have hmW4 := hmW.trans hm2
  have hU4 := hU3.mod hm2
  have hV4 := hV3.mod hm2
  clear hX3 hY3 hR hmW hU3 hV3 hm2
  have x0 := hX4.c0
  have x1 := hX4.c1
  have y0 := hY4.c0
  have y1 := hY4.c1
  go_wp2_with fail
  refine (plus_ft _ _ b a _ hV4 hU4 lb la (by omega)).mono ?_
  rintro e w3 ⟨hm3, nb, v4, l4, rfl, hN4, hx4, hl4⟩
  have hR5 := hR4.keep hm3 (fun f => f)
  obtain ⟨vo4, vcap4, rfl, -⟩ := owns_form hN4.2
  have r0 := hR5.c0
  have r1 := hR5.c1
  have f0 := hR5.fz 0
  have f1 := hR5.fz 1
  have hR6 := hR5.set nb (.slice vo4 l4.length vcap4)
  have q0 := hR6.c0
  have q1 := hR6.c1
  have hmE := hmW4.trans hm3
  have hmF : Mod (fun _ => False) w ((w3.setCell ⟨w.heap.size + 1 + 1, 0, none⟩ (.bool nb)).setCell ⟨w.heap.size + 1 + 1, 1, none⟩ (.slice vo4 l4.length vcap4)) := ((hmE.mono (q := fun i => i = w.heap.size + 1 + 1) (fun _ _ f => f.elim)).trans (mod_set2 _ _ _ _)).mono (fun i hi h => by omega)
  have HNE : Hid (NumEnd w (num true a + num false b) (max a.length b.length + 4) (.returned (nm2 nb (.slice vo4 l4.length vcap4))) ((w3.setCell ⟨w.heap.size + 1 + 1, 0, none⟩ (.bool nb)).setCell ⟨w.heap.size + 1 + 1, 1, none⟩ (.slice vo4 l4.length vcap4))) :=
    numEnd (l := l4) hmF ⟨hN4.1, owns_set2 hN4.2 hR5 _ _⟩ (by rw [hx4, Int.add_comm]) (by omega)
  clear hN4 hx4 hmE hm3 hsgb x0 x1 y0 y1
  go_wp2_with fail
  exact bodyPost_ret (by simp [results, Tryz.results118, go_sem, q0, q1]) rfl HNE.out

set_option maxHeartbeats 1600000 in
set_option maxRecDepth 100000 in
theorem swap_ft (u v : Value) (a b : List Nat) (w : World) (hU : Nm w false u a) (hV : Nm w true v b) (la : a.length ≤ 50000) (lb : b.length ≤ 50000) (hlt : val a < val b) :
    Calls Tryz.prog 118 #[nm2 false u, nm2 true v] w (NumEnd w (num false a + num true b) (max a.length b.length + 4)) := by
  have ha := hU.1.1
  have hb := hV.1.1
  have hta := hU.1.2.1
  have htb := hV.1.2.1
  obtain ⟨ao, acap, rfl, -⟩ := owns_form hU.2
  obtain ⟨bo, bcap, rfl, -⟩ := owns_form hV.2
  have hX := nmb_new w false (.slice ao a.length acap)
  have hY := nmb_new (w.alloc (.cells #[.bool false, .slice ao a.length acap] 116)) true (.slice bo b.length bcap)
  have hR := nmb_new ((w.alloc (.cells #[.bool false, .slice ao a.length acap] 116)).alloc (.cells #[.bool true, .slice bo b.length bcap] 116)) false (.slice none 0 0)
  have m1 : Mod (fun _ => False) w (w.alloc (.cells #[.bool false, .slice ao a.length acap] 116)) := (Mod.refl _ w).alloc _
  have m2 : Mod (fun _ => False) (w.alloc (.cells #[.bool false, .slice ao a.length acap] 116)) ((w.alloc (.cells #[.bool false, .slice ao a.length acap] 116)).alloc (.cells #[.bool true, .slice bo b.length bcap] 116)) := (Mod.refl _ _).alloc _
  have m3 : Mod (fun _ => False) ((w.alloc (.cells #[.bool false, .slice ao a.length acap] 116)).alloc (.cells #[.bool true, .slice bo b.length bcap] 116)) (((w.alloc (.cells #[.bool false, .slice ao a.length acap] 116)).alloc (.cells #[.bool true, .slice bo b.length bcap] 116)).alloc (.cells #[.bool false, .slice none 0 0] 116)) := (Mod.refl _ _).alloc _
  have hX3 := (hX.keep m2 (fun f => f)).keep m3 (fun f => f)
  have hY3 := hY.keep m3 (fun f => f)
  have hmW := m1.trans (m2.trans m3)
  have hU3 := hU.mod hmW
  have hV3 := hV.mod hmW
  simp only [World.size_alloc] at hY3 hR
  clear hX hY m1 m2 m3 hU hV
  go_enter Tryz.func118, Tryz.ntmps118
  go_wp2_with fail
  refine (order_any _ _ a b _ hU3.2 hV3.2 ha hb hta htb (by omega) (by omega)).mono ?_
  rintro e W ⟨rfl, hm2⟩
  have hsgb : decide (sgI ((val a : Int) - (val b : Int)) < 0) = true := by
    unfold sgI; rw [if_pos (by omega)]; rfl
  have hX4 := hX3.keep hm2 (fun f => f)
  have hY4 := hY3.keep hm2 (fun f => f)
  have hR4 := hR.keep hm2 (fun f => f)
  have hmW4 := hmW.trans hm2
  have hU4 := hU3.mod hm2
  have hV4 := hV3.mod hm2
  clear hX3 hY3 hR hmW hU3 hV3 hm2
  have x0 := hX4.c0
  have x1 := hX4.c1
  have y0 := hY4.c0
  have y1 := hY4.c1
  go_wp2_with fail
  refine (plus_tf _ _ b a _ hV4 hU4 lb la (by omega)).mono ?_
  rintro e w3 ⟨hm3, nb, v4, l4, rfl, hN4, hx4, hl4⟩
  have hR5 := hR4.keep hm3 (fun f => f)
  obtain ⟨vo4, vcap4, rfl, -⟩ := owns_form hN4.2
  have r0 := hR5.c0
  have r1 := hR5.c1
  have f0 := hR5.fz 0
  have f1 := hR5.fz 1
  have hR6 := hR5.set nb (.slice vo4 l4.length vcap4)
  have q0 := hR6.c0
  have q1 := hR6.c1
  have hmE := hmW4.trans hm3
  have hmF : Mod (fun _ => False) w ((w3.setCell ⟨w.heap.size + 1 + 1, 0, none⟩ (.bool nb)).setCell ⟨w.heap.size + 1 + 1, 1, none⟩ (.slice vo4 l4.length vcap4)) := ((hmE.mono (q := fun i => i = w.heap.size + 1 + 1) (fun _ _ f => f.elim)).trans (mod_set2 _ _ _ _)).mono (fun i hi h => by omega)
  have HNE : Hid (NumEnd w (num false a + num true b) (max a.length b.length + 4) (.returned (nm2 nb (.slice vo4 l4.length vcap4))) ((w3.setCell ⟨w.heap.size + 1 + 1, 0, none⟩ (.bool nb)).setCell ⟨w.heap.size + 1 + 1, 1, none⟩ (.slice vo4 l4.length vcap4))) :=
    numEnd (l := l4) hmF ⟨hN4.1, owns_set2 hN4.2 hR5 _ _⟩ (by rw [hx4, Int.add_comm]) (by omega)
  clear hN4 hx4 hmE hm3 hsgb x0 x1 y0 y1
  go_wp2_with fail
  exact bodyPost_ret (by simp [results, Tryz.results118, go_sem, q0, q1]) rfl HNE.out

theorem plus_any (nx ny : Bool) (u v : Value) (a b : List Nat) (w : World) (hU : Nm w nx u a) (hV : Nm w ny v b) (la : a.length ≤ 50000) (lb : b.length ≤ 50000) :
    Calls Tryz.prog 118 #[nm2 nx u, nm2 ny v] w (NumEnd w (num nx a + num ny b) (max a.length b.length + 4)) := by
  cases nx <;> cases ny
  · exact plus_same false u v a b w hU hV la lb
  · by_cases h : val b ≤ val a
    · exact plus_ft u v a b w hU hV la lb h
    · exact swap_ft u v a b w hU hV la lb (by omega)
  · by_cases h : val b ≤ val a
    · exact plus_tf u v a b w hU hV la lb h
    · exact swap_tf u v a b w hU hV la lb (by omega)
  · exact plus_same true u v a b w hU hV la lb

set_option maxHeartbeats 800000 in
set_option maxRecDepth 100000 in
theorem minus_any (nx ny : Bool) (u v : Value) (a b : List Nat) (w : World) (hU : Nm w nx u a) (hV : Nm w ny v b) (la : a.length ≤ 50000) (lb : b.length ≤ 50000) :
    Calls Tryz.prog 119 #[nm2 nx u, nm2 ny v] w (NumEnd w (num nx a - num ny b) (max a.length b.length + 4)) := by
  obtain ⟨ao, acap, rfl, -⟩ := owns_form hU.2
  obtain ⟨bo, bcap, rfl, -⟩ := owns_form hV.2
  have hX := nmb_new w nx (.slice ao a.length acap)
  have hY := nmb_new (w.alloc (.cells #[.bool nx, .slice ao a.length acap] 116)) ny (.slice bo b.length bcap)
  have hR := nmb_new ((w.alloc (.cells #[.bool nx, .slice ao a.length acap] 116)).alloc (.cells #[.bool ny, .slice bo b.length bcap] 116)) false (.slice none 0 0)
  have m1 : Mod (fun _ => False) w (w.alloc (.cells #[.bool nx, .slice ao a.length acap] 116)) := (Mod.refl _ w).alloc _
  have m2 : Mod (fun _ => False) (w.alloc (.cells #[.bool nx, .slice ao a.length acap] 116)) ((w.alloc (.cells #[.bool nx, .slice ao a.length acap] 116)).alloc (.cells #[.bool ny, .slice bo b.length bcap] 116)) := (Mod.refl _ _).alloc _
  have m3 : Mod (fun _ => False) ((w.alloc (.cells #[.bool nx, .slice ao a.length acap] 116)).alloc (.cells #[.bool ny, .slice bo b.length bcap] 116)) (((w.alloc (.cells #[.bool nx, .slice ao a.length acap] 116)).alloc (.cells #[.bool ny, .slice bo b.length bcap] 116)).alloc (.cells #[.bool false, .slice none 0 0] 116)) := (Mod.refl _ _).alloc _
  have hX3 := (hX.keep m2 (fun f => f)).keep m3 (fun f => f)
  have hY3 := hY.keep m3 (fun f => f)
  have hmW := m1.trans (m2.trans m3)
  have hU3 := hU.mod hmW
  have hV3 := hV.mod hmW
  simp only [World.size_alloc] at hY3 hR
  clear hX hY m1 m2 m3 hU hV
  go_enter Tryz.func119, Tryz.ntmps119
  go_wp2_with fail
  generalize ((w.alloc (.cells #[.bool nx, .slice ao a.length acap] 116)).alloc (.cells #[.bool ny, .slice bo b.length bcap] 116)).alloc (.cells #[.bool false, .slice none 0 0] 116) = W at *
  have x0 := hX3.c0
  have x1 := hX3.c1
  have y0 := hY3.c0
  have y1 := hY3.c1
  have hRd : Nmb W.drew (w.heap.size + 1 + 1) false (.slice none 0 0) := hR
  have hmWd : Mod (fun _ => False) W W.drew := (Mod.refl _ W).drew
  have hUd := hU3.mod hmWd
  have hVd := hV3.mod hmWd
  have HC : Hid (Canon (lessB ny b) b ∧ num (lessB ny b) b = -num ny b) := less_canon hV3.1
  have HU : Hid (Nm W.drew nx (.slice ao a.length acap) a) := hUd
  have HV : Hid (Nm W.drew ny (.slice bo b.length bcap) b) := hVd
  clear hU3 hV3 hUd hVd
  go_region_held3 (fun w' => w'.cell? ⟨w.heap.size, 0, none⟩ = some (.bool nx) ∧ w'.cell? ⟨w.heap.size, 1, none⟩ = some (.slice ao a.length acap) ∧ w'.cell? ⟨w.heap.size + 1, 0, none⟩ = some (.bool ny) ∧ w'.cell? ⟨w.heap.size + 1, 1, none⟩ = some (.slice bo b.length bcap))
    (first | go_keep | (exact hkeep) | (exact hkeep2))
    (first
      | (go_at_call 135; refine (less_any ny (.slice bo b.length bcap) b W.drew HV.out (by omega)).mono ?_; rintro e w3 ⟨rfl, hm3⟩; have hkeep := And.intro (hm3.cell (a := W.drew) x0) (And.intro (hm3.cell (a := W.drew) x1) (And.intro (hm3.cell (a := W.drew) y0) (hm3.cell (a := W.drew) y1))))
      | (go_at_call 118; refine (plus_any nx (lessB ny b) (.slice ao a.length acap) (.slice bo b.length bcap) a b w3 (HU.out.mod hm3) ⟨HC.out.1, (HV.out.mod hm3).2⟩ la lb).mono ?_; rintro e w4 ⟨hm4, nb, v4, l4, rfl, hN4, hx4, hl4⟩; have hkeep := And.intro (hm4.cell (hm3.cell (a := W.drew) x0)) (And.intro (hm4.cell (hm3.cell (a := W.drew) x1)) (And.intro (hm4.cell (hm3.cell (a := W.drew) y0)) (hm4.cell (hm3.cell (a := W.drew) y1)))); have hR4 := (hRd.keep hm3 (fun f => f)).keep hm4 (fun f => f); have r0 := hR4.c0; have r1 := hR4.c1; have f0 := hR4.fz 0; have f1 := hR4.fz 1; obtain ⟨vo4, vcap4, rfl, -⟩ := owns_form hN4.2; have hkeep2 := And.intro ((set2_cell (w.heap.size + 1 + 1) w4 (.bool nb) (.slice vo4 l4.length vcap4) w.heap.size 0 (by omega)).trans hkeep.1) (And.intro ((set2_cell (w.heap.size + 1 + 1) w4 (.bool nb) (.slice vo4 l4.length vcap4) w.heap.size 1 (by omega)).trans hkeep.2.1) (And.intro ((set2_cell (w.heap.size + 1 + 1) w4 (.bool nb) (.slice vo4 l4.length vcap4) (w.heap.size + 1) 0 (by omega)).trans hkeep.2.2.1) ((set2_cell (w.heap.size + 1 + 1) w4 (.bool nb) (.slice vo4 l4.length vcap4) (w.heap.size + 1) 1 (by omega)).trans hkeep.2.2.2)))))
  have hR5 := hR4.set nb (.slice vo4 l4.length vcap4)
  have q0 := hR5.c0
  have q1 := hR5.c1
  have hmE := (hmW.drew.trans hm3).trans hm4
  have hmF : Mod (fun _ => False) w ((w4.setCell ⟨w.heap.size + 1 + 1, 0, none⟩ (.bool nb)).setCell ⟨w.heap.size + 1 + 1, 1, none⟩ (.slice vo4 l4.length vcap4)) := ((hmE.mono (q := fun i => i = w.heap.size + 1 + 1) (fun _ _ f => f.elim)).trans (mod_set2 _ _ _ _)).mono (fun i hi h => by omega)
  have HNE : Hid (NumEnd w (num nx a - num ny b) (max a.length b.length + 4) (.returned (nm2 nb (.slice vo4 l4.length vcap4))) ((w4.setCell ⟨w.heap.size + 1 + 1, 0, none⟩ (.bool nb)).setCell ⟨w.heap.size + 1 + 1, 1, none⟩ (.slice vo4 l4.length vcap4))) :=
    numEnd (l := l4) hmF ⟨hN4.1, owns_set2 hN4.2 hR4 _ _⟩ (by rw [hx4, HC.out.2]; omega) (by omega)
  clear hN4 hx4 hmE hm3 hm4
  go_wp2_with fail
  exact bodyPost_ret (by simp [results, Tryz.results119, go_sem, q0, q1]) rfl HNE.out
end Go.Proofs.YtmnfndpbblpjiaaGreatDoor
