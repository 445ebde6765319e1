/- The document's numbers: Plus at all numbers, Minus. -/
import Derived.BigRegion
import Derived.Test.YtmnfndpbblpjiabGreatDoorZb24
import Derived.Test.YtmnfndpbblpjiabGreatDoorZb03
namespace Go.Proofs.YtmnfndpbblpjiabGreatDoor
open Go.RowKit Pu

set_option maxHeartbeats 1600000 in
set_option maxRecDepth 100000 in
theorem swap_tf (u v : Value) (a b : List Nat) (w : World) (hU : Nm w true u a) (hV : Nm w false v b) (la : a.length ≤ 1000000000) (lb : b.length ≤ 1000000000) (hlt : val a < val b) :
    Calls Tryz.prog 151 #[nm2 true u, nm2 false v] w (NumEnd w (num true a + num false b) (max a.length b.length + 4)) := by
  have ha := hU.1.1
  have hb := hV.1.1
  have hta := hU.1.2.1
  have htb := hV.1.2.1
  obtain ⟨ao, acap, rfl, -⟩ := owns_form hU.2
  obtain ⟨bo, bcap, rfl, -⟩ := owns_form hV.2
  have hX := nmb_new w true (.slice ao a.length acap)
  have hY := nmb_new (w.alloc (.cells #[.bool true, .slice ao a.length acap] 154)) false (.slice bo b.length bcap)
  have hR := nmb_new ((w.alloc (.cells #[.bool true, .slice ao a.length acap] 154)).alloc (.cells #[.bool false, .slice bo b.length bcap] 154)) false (.slice none 0 0)
  have m1 : Mod (fun _ => False) w (w.alloc (.cells #[.bool true, .slice ao a.length acap] 154)) := (Mod.refl _ w).alloc _
  have m2 : Mod (fun _ => False) (w.alloc (.cells #[.bool true, .slice ao a.length acap] 154)) ((w.alloc (.cells #[.bool true, .slice ao a.length acap] 154)).alloc (.cells #[.bool false, .slice bo b.length bcap] 154)) := (Mod.refl _ _).alloc _
  have m3 : Mod (fun _ => False) ((w.alloc (.cells #[.bool true, .slice ao a.length acap] 154)).alloc (.cells #[.bool false, .slice bo b.length bcap] 154)) (((w.alloc (.cells #[.bool true, .slice ao a.length acap] 154)).alloc (.cells #[.bool false, .slice bo b.length bcap] 154)).alloc (.cells #[.bool false, .slice none 0 0] 154)) := (Mod.refl _ _).alloc _
  have hX3 := (hX.keep m2 (fun f => f)).keep m3 (fun f => f)
  have hY3 := hY.keep m3 (fun f => f)
  have hmW := m1.trans (m2.trans m3)
  have hU3 := hU.mod hmW
  have hV3 := hV.mod hmW
  simp only [World.size_alloc] at hY3 hR
  clear hX hY m1 m2 m3 hU hV
  go_enter Tryz.func151, Tryz.ntmps151
  go_wp2_with fail
  refine (order_any _ _ a b _ hU3.2 hV3.2 ha hb hta htb (by omega) (by omega)).mono ?_
  rintro e W ⟨rfl, hm2⟩
  have hsgb : decide (sgI ((val a : Int) - (val b : Int)) < 0) = true := by
    unfold sgI; rw [if_pos (by omega)]; rfl
  have hX4 := hX3.keep hm2 (fun f => f)
  have hY4 := hY3.keep hm2 (fun f => f)
  have hR4 := hR.keep hm2 (fun f => f)
  have hmW4 := hmW.trans hm2
  have hU4 := hU3.mod hm2
  have hV4 := hV3.mod hm2
  clear hX3 hY3 hR hmW hU3 hV3 hm2
  have x0 := hX4.c0
  have x1 := hX4.c1
  have y0 := hY4.c0
  have y1 := hY4.c1
  go_wp2_with fail
  refine (plus_ft _ _ b a _ hV4 hU4 lb la (by omega)).mono ?_
  rintro e w3 ⟨hm3, nb, v4, l4, rfl, hN4, hx4, hl4⟩
  have hR5 := hR4.keep hm3 (fun f => f)
  obtain ⟨vo4, vcap4, rfl, -⟩ := owns_form hN4.2
  have r0 := hR5.c0
  have r1 := hR5.c1
  have f0 := hR5.fz 0
  have f1 := hR5.fz 1
  have hR6 := hR5.set nb (.slice vo4 l4.length vcap4)
  have q0 := hR6.c0
  have q1 := hR6.c1
  have hmE := hmW4.trans hm3
  have hmF : Mod (fun _ => False) w ((w3.setCell ⟨w.heap.size + 1 + 1, 0, none⟩ (.bool nb)).setCell ⟨w.heap.size + 1 + 1, 1, none⟩ (.slice vo4 l4.length vcap4)) := ((hmE.mono (q := fun i => i = w.heap.size + 1 + 1) (fun _ _ f => f.elim)).trans (mod_set2 _ _ _ _)).mono (fun i hi h => by omega)
  have HNE : Hid (NumEnd w (num true a + num false b) (max a.length b.length + 4) (.returned (nm2 nb (.slice vo4 l4.length vcap4))) ((w3.setCell ⟨w.heap.size + 1 + 1, 0, none⟩ (.bool nb)).setCell ⟨w.heap.size + 1 + 1, 1, none⟩ (.slice vo4 l4.length vcap4))) :=
    numEnd (l := l4) hmF ⟨hN4.1, owns_set2 hN4.2 hR5 _ _⟩ (by rw [hx4, Int.add_comm]) (by omega)
  clear hN4 hx4 hmE hm3 hsgb x0 x1 y0 y1
  go_wp2_with fail
  exact bodyPost_ret (by simp [results, Tryz.results151, go_sem, q0, q1]) rfl HNE.out

set_option maxHeartbeats 1600000 in
set_option maxRecDepth 100000 in
theorem swap_ft (u v : Value) (a b : List Nat) (w : World) (hU : Nm w false u a) (hV : Nm w true v b) (la : a.length ≤ 1000000000) (lb : b.length ≤ 1000000000) (hlt : val a < val b) :
    Calls Tryz.prog 151 #[nm2 false u, nm2 true v] w (NumEnd w (num false a + num true b) (max a.length b.length + 4)) := by
  have ha := hU.1.1
  have hb := hV.1.1
  have hta := hU.1.2.1
  have htb := hV.1.2.1
  obtain ⟨ao, acap, rfl, -⟩ := owns_form hU.2
  obtain ⟨bo, bcap, rfl, -⟩ := owns_form hV.2
  have hX := nmb_new w false (.slice ao a.length acap)
  have hY := nmb_new (w.alloc (.cells #[.bool false, .slice ao a.length acap] 154)) true (.slice bo b.length bcap)
  have hR := nmb_new ((w.alloc (.cells #[.bool false, .slice ao a.length acap] 154)).alloc (.cells #[.bool true, .slice bo b.length bcap] 154)) false (.slice none 0 0)
  have m1 : Mod (fun _ => False) w (w.alloc (.cells #[.bool false, .slice ao a.length acap] 154)) := (Mod.refl _ w).alloc _
  have m2 : Mod (fun _ => False) (w.alloc (.cells #[.bool false, .slice ao a.length acap] 154)) ((w.alloc (.cells #[.bool false, .slice ao a.length acap] 154)).alloc (.cells #[.bool true, .slice bo b.length bcap] 154)) := (Mod.refl _ _).alloc _
  have m3 : Mod (fun _ => False) ((w.alloc (.cells #[.bool false, .slice ao a.length acap] 154)).alloc (.cells #[.bool true, .slice bo b.length bcap] 154)) (((w.alloc (.cells #[.bool false, .slice ao a.length acap] 154)).alloc (.cells #[.bool true, .slice bo b.length bcap] 154)).alloc (.cells #[.bool false, .slice none 0 0] 154)) := (Mod.refl _ _).alloc _
  have hX3 := (hX.keep m2 (fun f => f)).keep m3 (fun f => f)
  have hY3 := hY.keep m3 (fun f => f)
  have hmW := m1.trans (m2.trans m3)
  have hU3 := hU.mod hmW
  have hV3 := hV.mod hmW
  simp only [World.size_alloc] at hY3 hR
  clear hX hY m1 m2 m3 hU hV
  go_enter Tryz.func151, Tryz.ntmps151
  go_wp2_with fail
  refine (order_any _ _ a b _ hU3.2 hV3.2 ha hb hta htb (by omega) (by omega)).mono ?_
  rintro e W ⟨rfl, hm2⟩
  have hsgb : decide (sgI ((val a : Int) - (val b : Int)) < 0) = true := by
    unfold sgI; rw [if_pos (by omega)]; rfl
  have hX4 := hX3.keep hm2 (fun f => f)
  have hY4 := hY3.keep hm2 (fun f => f)
  have hR4 := hR.keep hm2 (fun f => f)
  have hmW4 := hmW.trans hm2
  have hU4 := hU3.mod hm2
  have hV4 := hV3.mod hm2
  clear hX3 hY3 hR hmW hU3 hV3 hm2
  have x0 := hX4.c0
  have x1 := hX4.c1
  have y0 := hY4.c0
  have y1 := hY4.c1
  go_wp2_with fail
  refine (plus_tf _ _ b a _ hV4 hU4 lb la (by omega)).mono ?_
  rintro e w3 ⟨hm3, nb, v4, l4, rfl, hN4, hx4, hl4⟩
  have hR5 := hR4.keep hm3 (fun f => f)
  obtain ⟨vo4, vcap4, rfl, -⟩ := owns_form hN4.2
  have r0 := hR5.c0
  have r1 := hR5.c1
  have f0 := hR5.fz 0
  have f1 := hR5.fz 1
  have hR6 := hR5.set nb (.slice vo4 l4.length vcap4)
  have q0 := hR6.c0
  have q1 := hR6.c1
  have hmE := hmW4.trans hm3
  have hmF : Mod (fun _ => False) w ((w3.setCell ⟨w.heap.size + 1 + 1, 0, none⟩ (.bool nb)).setCell ⟨w.heap.size + 1 + 1, 1, none⟩ (.slice vo4 l4.length vcap4)) := ((hmE.mono (q := fun i => i = w.heap.size + 1 + 1) (fun _ _ f => f.elim)).trans (mod_set2 _ _ _ _)).mono (fun i hi h => by omega)
  have HNE : Hid (NumEnd w (num false a + num true b) (max a.length b.length + 4) (.returned (nm2 nb (.slice vo4 l4.length vcap4))) ((w3.setCell ⟨w.heap.size + 1 + 1, 0, none⟩ (.bool nb)).setCell ⟨w.heap.size + 1 + 1, 1, none⟩ (.slice vo4 l4.length vcap4))) :=
    numEnd (l := l4) hmF ⟨hN4.1, owns_set2 hN4.2 hR5 _ _⟩ (by rw [hx4, Int.add_comm]) (by omega)
  clear hN4 hx4 hmE hm3 hsgb x0 x1 y0 y1
  go_wp2_with fail
  exact bodyPost_ret (by simp [results, Tryz.results151, go_sem, q0, q1]) rfl HNE.out

theorem plus_any (nx ny : Bool) (u v : Value) (a b : List Nat) (w : World) (hU : Nm w nx u a) (hV : Nm w ny v b) (la : a.length ≤ 1000000000) (lb : b.length ≤ 1000000000) :
    Calls Tryz.prog 151 #[nm2 nx u, nm2 ny v] w (NumEnd w (num nx a + num ny b) (max a.length b.length + 4)) := by
  cases nx <;> cases ny
  · exact plus_same false u v a b w hU hV la lb
  · by_cases h : val b ≤ val a
    · exact plus_ft u v a b w hU hV la lb h
    · exact swap_ft u v a b w hU hV la lb (by omega)
  · by_cases h : val b ≤ val a
    · exact plus_tf u v a b w hU hV la lb h
    · exact swap_tf u v a b w hU hV la lb (by omega)
  · exact plus_same true u v a b w hU hV la lb

set_option maxHeartbeats 800000 in
set_option maxRecDepth 100000 in
theorem minus_any (nx ny : Bool) (u v : Value) (a b : List Nat) (w : World) (hU : Nm w nx u a) (hV : Nm w ny v b) (la : a.length ≤ 1000000000) (lb : b.length ≤ 1000000000) :
    Calls Tryz.prog 152 #[nm2 nx u, nm2 ny v] w (NumEnd w (num nx a - num ny b) (max a.length b.length + 4)) := by
  obtain ⟨ao, acap, rfl, -⟩ := owns_form hU.2
  obtain ⟨bo, bcap, rfl, -⟩ := owns_form hV.2
  have hX := nmb_new w nx (.slice ao a.length acap)
  have hY := nmb_new (w.alloc (.cells #[.bool nx, .slice ao a.length acap] 154)) ny (.slice bo b.length bcap)
  have hR := nmb_new ((w.alloc (.cells #[.bool nx, .slice ao a.length acap] 154)).alloc (.cells #[.bool ny, .slice bo b.length bcap] 154)) false (.slice none 0 0)
  have m1 : Mod (fun _ => False) w (w.alloc (.cells #[.bool nx, .slice ao a.length acap] 154)) := (Mod.refl _ w).alloc _
  have m2 : Mod (fun _ => False) (w.alloc (.cells #[.bool nx, .slice ao a.length acap] 154)) ((w.alloc (.cells #[.bool nx, .slice ao a.length acap] 154)).alloc (.cells #[.bool ny, .slice bo b.length bcap] 154)) := (Mod.refl _ _).alloc _
  have m3 : Mod (fun _ => False) ((w.alloc (.cells #[.bool nx, .slice ao a.length acap] 154)).alloc (.cells #[.bool ny, .slice bo b.length bcap] 154)) (((w.alloc (.cells #[.bool nx, .slice ao a.length acap] 154)).alloc (.cells #[.bool ny, .slice bo b.length bcap] 154)).alloc (.cells #[.bool false, .slice none 0 0] 154)) := (Mod.refl _ _).alloc _
  have hX3 := (hX.keep m2 (fun f => f)).keep m3 (fun f => f)
  have hY3 := hY.keep m3 (fun f => f)
  have hmW := m1.trans (m2.trans m3)
  have hU3 := hU.mod hmW
  have hV3 := hV.mod hmW
  simp only [World.size_alloc] at hY3 hR
  clear hX hY m1 m2 m3 hU hV
  go_enter Tryz.func152, Tryz.ntmps152
  go_wp2_with fail
  generalize ((w.alloc (.cells #[.bool nx, .slice ao a.length acap] 154)).alloc (.cells #[.bool ny, .slice bo b.length bcap] 154)).alloc (.cells #[.bool false, .slice none 0 0] 154) = W at *
  have x0 := hX3.c0
  have x1 := hX3.c1
  have y0 := hY3.c0
  have y1 := hY3.c1
  have hRd : Nmb W.drew (w.heap.size + 1 + 1) false (.slice none 0 0) := hR
  have hmWd : Mod (fun _ => False) W W.drew := (Mod.refl _ W).drew
  have hUd := hU3.mod hmWd
  have hVd := hV3.mod hmWd
  have HC : Hid (Canon (lessB ny b) b ∧ num (lessB ny b) b = -num ny b) := less_canon hV3.1
  have HU : Hid (Nm W.drew nx (.slice ao a.length acap) a) := hUd
  have HV : Hid (Nm W.drew ny (.slice bo b.length bcap) b) := hVd
  clear hU3 hV3 hUd hVd
  go_region_held3 (fun w' => w'.cell? ⟨w.heap.size, 0, none⟩ = some (.bool nx) ∧ w'.cell? ⟨w.heap.size, 1, none⟩ = some (.slice ao a.length acap) ∧ w'.cell? ⟨w.heap.size + 1, 0, none⟩ = some (.bool ny) ∧ w'.cell? ⟨w.heap.size + 1, 1, none⟩ = some (.slice bo b.length bcap))
    (first | go_keep | (exact hkeep) | (exact hkeep2))
    (first
      | (go_at_call 168; refine (less_any ny (.slice bo b.length bcap) b W.drew HV.out (by omega)).mono ?_; rintro e w3 ⟨rfl, hm3⟩; have hkeep := And.intro (hm3.cell (a := W.drew) x0) (And.intro (hm3.cell (a := W.drew) x1) (And.intro (hm3.cell (a := W.drew) y0) (hm3.cell (a := W.drew) y1))))
      | (go_at_call 151; refine (plus_any nx (lessB ny b) (.slice ao a.length acap) (.slice bo b.length bcap) a b w3 (HU.out.mod hm3) ⟨HC.out.1, (HV.out.mod hm3).2⟩ la lb).mono ?_; rintro e w4 ⟨hm4, nb, v4, l4, rfl, hN4, hx4, hl4⟩; have hkeep := And.intro (hm4.cell (hm3.cell (a := W.drew) x0)) (And.intro (hm4.cell (hm3.cell (a := W.drew) x1)) (And.intro (hm4.cell (hm3.cell (a := W.drew) y0)) (hm4.cell (hm3.cell (a := W.drew) y1)))); have hR4 := (hRd.keep hm3 (fun f => f)).keep hm4 (fun f => f); have r0 := hR4.c0; have r1 := hR4.c1; have f0 := hR4.fz 0; have f1 := hR4.fz 1; obtain ⟨vo4, vcap4, rfl, -⟩ := owns_form hN4.2; have hkeep2 := And.intro ((set2_cell (w.heap.size + 1 + 1) w4 (.bool nb) (.slice vo4 l4.length vcap4) w.heap.size 0 (by omega)).trans hkeep.1) (And.intro ((set2_cell (w.heap.size + 1 + 1) w4 (.bool nb) (.slice vo4 l4.length vcap4) w.heap.size 1 (by omega)).trans hkeep.2.1) (And.intro ((set2_cell (w.heap.size + 1 + 1) w4 (.bool nb) (.slice vo4 l4.length vcap4) (w.heap.size + 1) 0 (by omega)).trans hkeep.2.2.1) ((set2_cell (w.heap.size + 1 + 1) w4 (.bool nb) (.slice vo4 l4.length vcap4) (w.heap.size + 1) 1 (by omega)).trans hkeep.2.2.2)))))
  have hR5 := hR4.set nb (.slice vo4 l4.length vcap4)
  have q0 := hR5.c0
  have q1 := hR5.c1
  have hmE := (hmW.drew.trans hm3).trans hm4
  have hmF : Mod (fun _ => False) w ((w4.setCell ⟨w.heap.size + 1 + 1, 0, none⟩ (.bool nb)).setCell ⟨w.heap.size + 1 + 1, 1, none⟩ (.slice vo4 l4.length vcap4)) := ((hmE.mono (q := fun i => i = w.heap.size + 1 + 1) (fun _ _ f => f.elim)).trans (mod_set2 _ _ _ _)).mono (fun i hi h => by omega)
  have HNE : Hid (NumEnd w (num nx a - num ny b) (max a.length b.length + 4) (.returned (nm2 nb (.slice vo4 l4.length vcap4))) ((w4.setCell ⟨w.heap.size + 1 + 1, 0, none⟩ (.bool nb)).setCell ⟨w.heap.size + 1 + 1, 1, none⟩ (.slice vo4 l4.length vcap4))) :=
    numEnd (l := l4) hmF ⟨hN4.1, owns_set2 hN4.2 hR4 _ _⟩ (by rw [hx4, HC.out.2]; omega) (by omega)
  clear hN4 hx4 hmE hm3 hm4
  go_wp2_with fail
  exact bodyPost_ret (by simp [results, Tryz.results152, go_sem, q0, q1]) rfl HNE.out
end Go.Proofs.YtmnfndpbblpjiabGreatDoor

/- Products by digits: plain functions. -/
namespace Go.Proofs.YtmnfndpbblpjiabGreatDoor.Pu

theorem valI_set {d : List Int} {k : Nat} (hk : k < d.length) (x : Int) : valI (d.set k x) = valI d + (10000 : Int) ^ k * (x - d[k]) := by
  induction d generalizing k with
  | nil => simp at hk
  | cons y d ih =>
    cases k with
    | zero => simp [valI]; omega
    | succ k =>
      have := ih (k := k) (by simpa using hk)
      simp only [List.set_cons_succ, valI, List.getElem_cons_succ, this, Int.pow_succ, Int.mul_add]
      rw [Int.mul_comm ((10000 : Int) ^ k) 10000, Int.mul_assoc]; omega
theorem valI_zero (n : Nat) : valI (List.replicate n 0) = 0 := by
  induction n with
  | zero => rfl
  | succ n ih => simp [List.replicate_succ, valI, ih]
theorem val_take {l : List Nat} {k : Nat} (h : k < l.length) : (val (l.take (k + 1)) : Int) = (val (l.take k) : Int) + (10000 : Int) ^ k * (l[k] : Int) := by
  rw [List.take_succ_eq_append_getElem h, val_append]
  have : (l.take k).length = k := by simp; omega
  rw [this]; simp [val]

/-- How far the multiplying has come: i rows, and j places of the next. -/
def MInv (a b : List Nat) (d : List Int) (i j : Nat) : Prop :=
  d.length = a.length + b.length ∧ valI d = (val (a.take i) : Int) * (val b : Int) + (10000 : Int) ^ i * ((a[i]?.getD 0 : Nat) : Int) * (val (b.take j) : Int) ∧
  (∀ k (hk : k < d.length), 0 ≤ d[k] ∧ d[k] ≤ 100000000 * ((i : Int) + 1)) ∧ (∀ k (hk : k < d.length), i + j ≤ k → d[k] ≤ 100000000 * (i : Int))
theorem MInv.start (a b : List Nat) : MInv a b (List.replicate (a.length + b.length) 0) 0 0 := by
  refine ⟨by simp, ?_, fun k hk => ?_, fun k hk _ => ?_⟩
  · rw [valI_zero]; simp [val]
  · simp
  · simp
theorem MInv.step {a b : List Nat} {d : List Int} {i j : Nat} (h : MInv a b d i j) (ha : Dig a) (hb : Dig b) (hi : i < a.length) (hj : j < b.length) (hk : i + j < d.length) :
    MInv a b (d.set (i + j) (d[i + j] + (a[i] : Int) * (b[j] : Int))) i (j + 1) := by
  obtain ⟨h1, h2, h3, h4⟩ := h
  have hda := ha _ (List.getElem_mem hi)
  have hdb := hb _ (List.getElem_mem hj)
  have hp0 : 0 ≤ (a[i] : Int) * (b[j] : Int) := Int.mul_nonneg (by omega) (by omega)
  have hp1 : (a[i] : Int) * (b[j] : Int) ≤ 9999 * 9999 := by
    have : a[i] * b[j] ≤ 9999 * 9999 := Nat.mul_le_mul (by omega) (by omega)
    have e : ((a[i] * b[j] : Nat) : Int) = (a[i] : Int) * (b[j] : Int) := by simp
    omega
  refine ⟨by simpa using h1, ?_, fun k hk' => ?_, fun k hk' hle => ?_⟩
  · rw [valI_set hk, h2, val_take hj]
    have e0 : ((a[i]?.getD 0 : Nat) : Int) = (a[i] : Int) := by simp [hi]
    rw [e0]
    have e1 : d[i + j] + (a[i] : Int) * (b[j] : Int) - d[i + j] = (a[i] : Int) * (b[j] : Int) := by omega
    rw [e1, Int.mul_add, Int.pow_add, Int.add_assoc]
    congr 2
    simp only [Int.mul_assoc, Int.mul_left_comm]
  · have hkd : k < d.length := by simpa using hk'
    rw [List.getElem_set]
    split
    · have := (h3 (i + j) hk).1
      have := h4 (i + j) hk (Nat.le_refl _)
      omega
    · exact h3 k hkd
  · have hkd : k < d.length := by simpa using hk'
    rw [List.getElem_set, if_neg (by omega)]
    exact h4 k hkd (by omega)
theorem MInv.row {a b : List Nat} {d : List Int} {i : Nat} (h : MInv a b d i b.length) (hi : i < a.length) : MInv a b d (i + 1) 0 := by
  obtain ⟨h1, h2, h3, h4⟩ := h
  refine ⟨h1, ?_, fun k hk => ?_, fun k hk hle => ?_⟩
  · rw [h2, val_take hi, List.take_length]
    have e0 : ((a[i]?.getD 0 : Nat) : Int) = (a[i] : Int) := by simp [hi]
    rw [e0]
    simp [val, Int.add_mul]
  · have := h3 k hk; omega
  · have := (h3 k hk).2; omega
theorem MInv.done {a b : List Nat} {d : List Int} {i : Nat} (h : MInv a b d i 0) (hi : a.length ≤ i) : valI d = (val a : Int) * (val b : Int) := by
  rw [h.2.1, List.take_of_length_le hi]
  simp [val]
theorem MInv.bound {a b : List Nat} {d : List Int} {i j : Nat} (h : MInv a b d i j) (hi : i ≤ 1000000001) : ∀ x ∈ d, -200000000000000000 ≤ x ∧ x ≤ 200000000000000000 := by
  intro x hx
  obtain ⟨k, hk, rfl⟩ := List.getElem_of_mem hx
  have := h.2.2.1 k hk
  omega
theorem num_mul (nx ny : Bool) (a b os : List Nat) (h : (val os : Int) = (val a : Int) * (val b : Int)) : num (nx != ny) os = num nx a * num ny b := by
  cases nx <;> cases ny <;> simp [num, h, Int.neg_mul, Int.mul_neg]
end Go.Proofs.YtmnfndpbblpjiabGreatDoor.Pu

/- The document's numbers: Times. -/
namespace Go.Proofs.YtmnfndpbblpjiabGreatDoor
open Go.RowKit Pu

theorem zvs_set (d : List Int) (k : Nat) (x : Int) : (zvs d).set k (.int .i64 x) = zvs (d.set k x) := by simp [zvs, List.map_set]
theorem made_zero (n : Nat) : (madeCells #[Value.int .i64 0] (n * 1)).toList = zvs (List.replicate n 0) := by rw [toList_madeCells_one]; simp [zvs]

set_option maxHeartbeats 3200000 in
set_option maxRecDepth 100000 in
theorem times_any (nx ny : Bool) (u v : Value) (a b : List Nat) (w : World) (hU : Nm w nx u a) (hV : Nm w ny v b) (la : a.length ≤ 1000000000) (lb : b.length ≤ 1000000000) :
    Calls Tryz.prog 153 #[nm2 nx u, nm2 ny v] w (NumEnd w (num nx a * num ny b) (a.length + b.length + 4)) := by
  obtain ⟨i0, hi, hz0, hz1, hz2⟩ := info_parts Tryz.info3
  have ha := hU.1.1
  have hb := hV.1.1
  obtain ⟨ao, acap, rfl, -⟩ := owns_form hU.2
  obtain ⟨bo, bcap, rfl, -⟩ := owns_form hV.2
  have hX := nmb_new w nx (.slice ao a.length acap)
  have hY := nmb_new (w.alloc (.cells #[.bool nx, .slice ao a.length acap] 154)) ny (.slice bo b.length bcap)
  have hR := nmb_new ((w.alloc (.cells #[.bool nx, .slice ao a.length acap] 154)).alloc (.cells #[.bool ny, .slice bo b.length bcap] 154)) false (.slice none 0 0)
  have m1 : Mod (fun _ => False) w (w.alloc (.cells #[.bool nx, .slice ao a.length acap] 154)) := (Mod.refl _ w).alloc _
  have m2 : Mod (fun _ => False) (w.alloc (.cells #[.bool nx, .slice ao a.length acap] 154)) ((w.alloc (.cells #[.bool nx, .slice ao a.length acap] 154)).alloc (.cells #[.bool ny, .slice bo b.length bcap] 154)) := (Mod.refl _ _).alloc _
  have m3 : Mod (fun _ => False) ((w.alloc (.cells #[.bool nx, .slice ao a.length acap] 154)).alloc (.cells #[.bool ny, .slice bo b.length bcap] 154)) (((w.alloc (.cells #[.bool nx, .slice ao a.length acap] 154)).alloc (.cells #[.bool ny, .slice bo b.length bcap] 154)).alloc (.cells #[.bool false, .slice none 0 0] 154)) := (Mod.refl _ _).alloc _
  have hX3 := (hX.keep m2 (fun f => f)).keep m3 (fun f => f)
  have hY3 := hY.keep m3 (fun f => f)
  have hmW := m1.trans (m2.trans m3)
  have hU0 := hU.2
  have hV0 := hV.2
  simp only [World.size_alloc] at hY3 hR
  clear hX hY m1 m2 m3 hU hV
  go_enter Tryz.func153, Tryz.ntmps153
  go_wp2_with (at_make; refine wpList_make_full _ rfl _ _ 29 rfl (w.heap.size + 1 + 1 + 1) 3 i0 (.int .i64 0) 1 Tryz.underlying29 hi hz0 hz1 _ _ _ _ (a.length + b.length) rfl rfl (by omega) (by omega) (by rw [hz2]; omega) (by unfold maxLen; omega) (by simp) ?_)
  intro W hown0 hgrow0
  have hm0 := (Mod.refl (fun _ => False) (((w.alloc (.cells #[.bool nx, .slice ao a.length acap] 154)).alloc (.cells #[.bool ny, .slice bo b.length bcap] 154)).alloc (.cells #[.bool false, .slice none 0 0] 154))).grown hgrow0 (fun k hk _ => by cases hk)
  have hX4 := hX3.keep hm0 (fun f => f)
  have hY4 := hY3.keep hm0 (fun f => f)
  have hR4 := hR.keep hm0 (fun f => f)
  have hmW4 := hmW.trans hm0
  have hown1 : W.ownsRow (w.heap.size + 1 + 1 + 1) 3 1 (.slice (some ⟨w.heap.size + 1 + 1 + 1, 0, none⟩) (a.length + b.length) (a.length + b.length)) (a.length + b.length) (zvs (List.replicate (a.length + b.length) 0)) := by
    rw [← made_zero]; simpa using hown0
  clear hX3 hY3 hR hmW hm0 hgrow0 hown0
  go_wp2_with fail
  go_loopw [6, 7] (fun iv _ wr => ∃ (i : Nat) (d : List Int), i ≤ a.length ∧ iv = .int .i64 i ∧ wr.ownsRow (w.heap.size + 1 + 1 + 1) 3 1 (.slice (some ⟨w.heap.size + 1 + 1 + 1, 0, none⟩) (a.length + b.length) (a.length + b.length)) (a.length + b.length) (zvs d) ∧ Hid (MInv a b d i 0) ∧ Mod (fun q => w.heap.size + 1 + 1 + 1 ≤ q) W wr) (fun iv _ _ => a.length - (intOf iv).toNat)
  case atStart => exact ⟨0, _, by omega, rfl, hown1, MInv.start a b, Mod.refl _ _⟩
  case round =>
    clear hown1
    obtain ⟨i, d, hil, rfl, hown, HM, hm⟩ := hrel
    have x1 := (hX4.keep hm (by omega)).c1
    have y1 := (hY4.keep hm (by omega)).c1
    by_cases hia : i < a.length
    · go_wp2_with fail
      go_loopw [7] (fun jv wr => ∃ (j : Nat) (d : List Int), j ≤ b.length ∧ jv = .int .i64 j ∧ wr.ownsRow (w.heap.size + 1 + 1 + 1) 3 1 (.slice (some ⟨w.heap.size + 1 + 1 + 1, 0, none⟩) (a.length + b.length) (a.length + b.length)) (a.length + b.length) (zvs d) ∧ Hid (MInv a b d i j) ∧ Mod (fun q => w.heap.size + 1 + 1 + 1 ≤ q) W wr) (fun jv _ => b.length - (intOf jv).toNat)
      case atStart => exact ⟨0, d, by omega, rfl, hown, HM, hm⟩
      case round =>
        clear x1 y1 hown HM hm
        obtain ⟨j, d, hjl, rfl, hown, HM, hm⟩ := hrel
        have x1 := (hX4.keep hm (by omega)).c1
        have y1 := (hY4.keep hm (by omega)).c1
        by_cases hjb : j < b.length
        · have HDL : Hid (d.length = a.length + b.length) := HM.out.1
          have hk : i + j < d.length := by have := HDL.out; omega
          obtain ⟨gd, hgd, cd⟩ := zvs_cell hown HDL.out.symm hk
          injection hgd with hgd
          injection hgd with hgd
          subst hgd
          have hmw : Mod (fun _ => False) w wr := ((hmW4.mono (q := fun q => w.heap.size + 1 + 1 + 1 ≤ q) (fun _ _ f => f.elim)).trans hm).mono (fun q hq h => by omega)
          have fd := hown.frozenAt (i + j)
          have hdb := HM.out.2.2.1 (i + j) hk
          have hd0 := hdb.1
          have hd1 := hdb.2
          clear hdb
          obtain ⟨ga, rfl, ca⟩ := ivs_cell (owns_mod hU0 hmw (fun _ _ f => f)) rfl hia
          obtain ⟨gb, rfl, cb⟩ := ivs_cell (owns_mod hV0 hmw (fun _ _ f => f)) rfl hjb
          have hda := ha _ (List.getElem_mem hia)
          have hdb := hb _ (List.getElem_mem hjb)
          have hp0 : 0 ≤ (a[i] : Int) * (b[j] : Int) := Int.mul_nonneg (by omega) (by omega)
          have hp1 : (a[i] : Int) * (b[j] : Int) ≤ 100000000 := by
            have : a[i] * b[j] ≤ 9999 * 9999 := Nat.mul_le_mul (by omega) (by omega)
            have e : ((a[i] * b[j] : Nat) : Int) = (a[i] : Int) * (b[j] : Int) := by simp
            omega
          have i1 : (0 : Int) ≤ (i : Int) + (j : Int) := by omega
          have i2 : (i : Int) + (j : Int) < ((a.length + b.length : Nat) : Int) := by omega
          have i3 : (0 : Int) ≤ (i : Int) := by omega
          have i4 : (i : Int) < (a.length : Int) := by omega
          have i5 : (0 : Int) ≤ (j : Int) := by omega
          have i6 : (j : Int) < (b.length : Int) := by omega
          have hd2 : d[i + j] ≤ 200000000000000000 := by omega
          generalize hdk : d[i + j] = dk at *
          have HDK : Hid (d[i + j] = dk) := hdk
          clear hdk hd1
          go_wp2_with fail
          go_region
          have HM2 : Hid (MInv a b (d.set (i + j) (dk + (a[i] : Int) * (b[j] : Int))) i (j + 1)) := show MInv a b (d.set (i + j) (dk + (a[i] : Int) * (b[j] : Int))) i (j + 1) by
            rw [← HDK.out]; exact HM.out.step ha hb hia hjb hk
          have hst := hown.stored (i + j) (.int .i64 (dk + (a[i] : Int) * (b[j] : Int)))
          have hown2 : (wr.setCell ⟨w.heap.size + 1 + 1 + 1, i + j, none⟩ (.int .i64 (dk + (a[i] : Int) * (b[j] : Int)))).drew.ownsRow (w.heap.size + 1 + 1 + 1) 3 1 (.slice (some ⟨w.heap.size + 1 + 1 + 1, 0, none⟩) (a.length + b.length) (a.length + b.length)) (a.length + b.length) (zvs (d.set (i + j) (dk + (a[i] : Int) * (b[j] : Int)))) := by
            rw [← zvs_set]; exact hst.1
          have hm2 : Mod (fun q => w.heap.size + 1 + 1 + 1 ≤ q) W (wr.setCell ⟨w.heap.size + 1 + 1 + 1, i + j, none⟩ (.int .i64 (dk + (a[i] : Int) * (b[j] : Int)))).drew := (hm.setCell _ _ (fun _ => Nat.le_refl _)).drew
          clear hst hown hm x1 y1 cd fd ca cb
          go_wp2_with fail
          go_roundw
          case rel => exact ⟨j + 1, _, by omega, by go_num, hown2, HM2, hm2⟩
          case measure => simp [intOf]; omega
        · have hjb' : j = b.length := by omega
          have HM2 : Hid (MInv a b d (i + 1) 0) := show MInv a b d (i + 1) 0 by have := HM.out; rw [hjb'] at this; exact this.row hia
          clear hjb'
          go_wp2_with fail
          go_roundw
          case rel => exact ⟨i + 1, d, by omega, by go_num, hown, HM2, hm⟩
          case measure => simp [intOf]; omega
    · have hil' : i = a.length := by omega
      have HDL : Hid (d.length = a.length + b.length) := HM.out.1
      have HVL : Hid (valI d = (val a : Int) * (val b : Int)) := HM.out.done (by omega)
      have HBD : Hid (∀ x ∈ d, -200000000000000000 ≤ x ∧ x ≤ 200000000000000000) := HM.out.bound (by omega)
      have H0 : Hid (0 ≤ valI d) := show 0 ≤ valI d by rw [HVL.out]; exact Int.mul_nonneg (Int.natCast_nonneg _) (Int.natCast_nonneg _)
      have HTOT : Hid (∀ os, (val os : Int) = valI d → num (nx != ny) os = num nx a * num ny b) := fun os h => num_mul nx ny a b os (by rw [h, HVL.out])
      have HO6 : Hid (wr.ownsRow 0 3 1 (.slice (some ⟨w.heap.size + 1 + 1 + 1, 0, none⟩) (a.length + b.length) (a.length + b.length)) d.length (zvs d)) := show wr.ownsRow 0 3 1 (.slice (some ⟨w.heap.size + 1 + 1 + 1, 0, none⟩) (a.length + b.length) (a.length + b.length)) d.length (zvs d) by
        rw [HDL.out]; exact owns_base hown (Nat.zero_le _)
      have hx0 := (hX4.keep hm (by omega)).c0
      have hy0 := (hY4.keep hm (by omega)).c0
      have hRw : Nmb wr (w.heap.size + 1 + 1) false (.slice none 0 0) := hR4.keep hm (by omega)
      have hRd : Nmb wr.drew (w.heap.size + 1 + 1) false (.slice none 0 0) := hRw
      have hmw : Mod (fun _ => False) w wr := ((hmW4.mono (q := fun q => w.heap.size + 1 + 1 + 1 ≤ q) (fun _ _ f => f.elim)).trans hm).mono (fun q hq h => by omega)
      have HLE : Hid (d.length ≤ 2000000000) := show d.length ≤ 2000000000 by rw [HDL.out]; omega
      clear hown hil' HM hX4 hY4 hR4 hU0 hV0 hmW4 hm
      go_wp2_with fail
      clear x1 y1
      generalize num nx a * num ny b = tot at *
      cases nx
      · cases ny
        · go_region_held3 (fun w' => w'.cell? ⟨w.heap.size, 0, none⟩ = some (.bool false) ∧ w'.cell? ⟨w.heap.size + 1, 0, none⟩ = some (.bool false))
            (first | go_keep | (exact hkeep) | (exact hkeep2))
            (first
              | (go_at_call 186; refine (carried_any (.slice (some ⟨w.heap.size + 1 + 1 + 1, 0, none⟩) (a.length + b.length) (a.length + b.length)) d wr.drew HO6.out HBD.out H0.out HLE.out).mono ?_; rintro e w3 ⟨hm3, v3, os, rfl, hown3, hdig, hval, hlen3⟩; have hkeep := And.intro (hm3.cell (a := wr.drew) hx0) (hm3.cell (a := wr.drew) hy0))
              | (go_at_call 185; refine (made_any false v3 os w3 (owns_base hown3 (Nat.zero_le _)) hdig (by have := HLE.out; omega)).mono ?_; rintro e w4 ⟨hm4, nb, v4, l4, rfl, hN4, hx4, hl4⟩; have hkeep := And.intro (hm4.cell (hm3.cell (a := wr.drew) hx0)) (hm4.cell (hm3.cell (a := wr.drew) hy0)); have hR4 := (hRd.keep hm3 (fun f => f)).keep hm4 (fun f => f); have r0 := hR4.c0; have r1 := hR4.c1; have f0 := hR4.fz 0; have f1 := hR4.fz 1; obtain ⟨vo4, vcap4, rfl, -⟩ := owns_form hN4.2; have hkeep2 := And.intro ((set2_cell (w.heap.size + 1 + 1) w4 (.bool nb) (.slice vo4 l4.length vcap4) w.heap.size 0 (by omega)).trans hkeep.1) ((set2_cell (w.heap.size + 1 + 1) w4 (.bool nb) (.slice vo4 l4.length vcap4) (w.heap.size + 1) 0 (by omega)).trans hkeep.2)))
          have hR5 := hR4.set nb (.slice vo4 l4.length vcap4)
          have q0 := hR5.c0
          have q1 := hR5.c1
          have hmE := (hmw.drew.trans hm3).trans hm4
          have hmF : Mod (fun _ => False) w ((w4.setCell ⟨w.heap.size + 1 + 1, 0, none⟩ (.bool nb)).setCell ⟨w.heap.size + 1 + 1, 1, none⟩ (.slice vo4 l4.length vcap4)) := ((hmE.mono (q := fun i => i = w.heap.size + 1 + 1) (fun _ _ f => f.elim)).trans (mod_set2 _ _ _ _)).mono (fun i hi h => by omega)
          have HNE : Hid (NumEnd w tot (a.length + b.length + 4) (.returned (nm2 nb (.slice vo4 l4.length vcap4))) ((w4.setCell ⟨w.heap.size + 1 + 1, 0, none⟩ (.bool nb)).setCell ⟨w.heap.size + 1 + 1, 1, none⟩ (.slice vo4 l4.length vcap4))) :=
            numEnd (l := l4) hmF ⟨hN4.1, owns_set2 hN4.2 hR4 _ _⟩ (by rw [hx4]; exact HTOT.out os hval) (by have := HDL.out; omega)
          clear hN4 hown3 hval hx4 hmE hm3 hm4 hmw
          go_wp2_with fail
          exact bodyPost_ret (by simp [results, Tryz.results153, go_sem, q0, q1]) rfl HNE.out
        · go_region_held3 (fun w' => w'.cell? ⟨w.heap.size, 0, none⟩ = some (.bool false) ∧ w'.cell? ⟨w.heap.size + 1, 0, none⟩ = some (.bool true))
            (first | go_keep | (exact hkeep) | (exact hkeep2))
            (first
              | (go_at_call 186; refine (carried_any (.slice (some ⟨w.heap.size + 1 + 1 + 1, 0, none⟩) (a.length + b.length) (a.length + b.length)) d wr.drew HO6.out HBD.out H0.out HLE.out).mono ?_; rintro e w3 ⟨hm3, v3, os, rfl, hown3, hdig, hval, hlen3⟩; have hkeep := And.intro (hm3.cell (a := wr.drew) hx0) (hm3.cell (a := wr.drew) hy0))
              | (go_at_call 185; refine (made_any true v3 os w3 (owns_base hown3 (Nat.zero_le _)) hdig (by have := HLE.out; omega)).mono ?_; rintro e w4 ⟨hm4, nb, v4, l4, rfl, hN4, hx4, hl4⟩; have hkeep := And.intro (hm4.cell (hm3.cell (a := wr.drew) hx0)) (hm4.cell (hm3.cell (a := wr.drew) hy0)); have hR4 := (hRd.keep hm3 (fun f => f)).keep hm4 (fun f => f); have r0 := hR4.c0; have r1 := hR4.c1; have f0 := hR4.fz 0; have f1 := hR4.fz 1; obtain ⟨vo4, vcap4, rfl, -⟩ := owns_form hN4.2; have hkeep2 := And.intro ((set2_cell (w.heap.size + 1 + 1) w4 (.bool nb) (.slice vo4 l4.length vcap4) w.heap.size 0 (by omega)).trans hkeep.1) ((set2_cell (w.heap.size + 1 + 1) w4 (.bool nb) (.slice vo4 l4.length vcap4) (w.heap.size + 1) 0 (by omega)).trans hkeep.2)))
          have hR5 := hR4.set nb (.slice vo4 l4.length vcap4)
          have q0 := hR5.c0
          have q1 := hR5.c1
          have hmE := (hmw.drew.trans hm3).trans hm4
          have hmF : Mod (fun _ => False) w ((w4.setCell ⟨w.heap.size + 1 + 1, 0, none⟩ (.bool nb)).setCell ⟨w.heap.size + 1 + 1, 1, none⟩ (.slice vo4 l4.length vcap4)) := ((hmE.mono (q := fun i => i = w.heap.size + 1 + 1) (fun _ _ f => f.elim)).trans (mod_set2 _ _ _ _)).mono (fun i hi h => by omega)
          have HNE : Hid (NumEnd w tot (a.length + b.length + 4) (.returned (nm2 nb (.slice vo4 l4.length vcap4))) ((w4.setCell ⟨w.heap.size + 1 + 1, 0, none⟩ (.bool nb)).setCell ⟨w.heap.size + 1 + 1, 1, none⟩ (.slice vo4 l4.length vcap4))) :=
            numEnd (l := l4) hmF ⟨hN4.1, owns_set2 hN4.2 hR4 _ _⟩ (by rw [hx4]; exact HTOT.out os hval) (by have := HDL.out; omega)
          clear hN4 hown3 hval hx4 hmE hm3 hm4 hmw
          go_wp2_with fail
          exact bodyPost_ret (by simp [results, Tryz.results153, go_sem, q0, q1]) rfl HNE.out
      · cases ny
        · go_region_held3 (fun w' => w'.cell? ⟨w.heap.size, 0, none⟩ = some (.bool true) ∧ w'.cell? ⟨w.heap.size + 1, 0, none⟩ = some (.bool false))
            (first | go_keep | (exact hkeep) | (exact hkeep2))
            (first
              | (go_at_call 186; refine (carried_any (.slice (some ⟨w.heap.size + 1 + 1 + 1, 0, none⟩) (a.length + b.length) (a.length + b.length)) d wr.drew HO6.out HBD.out H0.out HLE.out).mono ?_; rintro e w3 ⟨hm3, v3, os, rfl, hown3, hdig, hval, hlen3⟩; have hkeep := And.intro (hm3.cell (a := wr.drew) hx0) (hm3.cell (a := wr.drew) hy0))
              | (go_at_call 185; refine (made_any true v3 os w3 (owns_base hown3 (Nat.zero_le _)) hdig (by have := HLE.out; omega)).mono ?_; rintro e w4 ⟨hm4, nb, v4, l4, rfl, hN4, hx4, hl4⟩; have hkeep := And.intro (hm4.cell (hm3.cell (a := wr.drew) hx0)) (hm4.cell (hm3.cell (a := wr.drew) hy0)); have hR4 := (hRd.keep hm3 (fun f => f)).keep hm4 (fun f => f); have r0 := hR4.c0; have r1 := hR4.c1; have f0 := hR4.fz 0; have f1 := hR4.fz 1; obtain ⟨vo4, vcap4, rfl, -⟩ := owns_form hN4.2; have hkeep2 := And.intro ((set2_cell (w.heap.size + 1 + 1) w4 (.bool nb) (.slice vo4 l4.length vcap4) w.heap.size 0 (by omega)).trans hkeep.1) ((set2_cell (w.heap.size + 1 + 1) w4 (.bool nb) (.slice vo4 l4.length vcap4) (w.heap.size + 1) 0 (by omega)).trans hkeep.2)))
          have hR5 := hR4.set nb (.slice vo4 l4.length vcap4)
          have q0 := hR5.c0
          have q1 := hR5.c1
          have hmE := (hmw.drew.trans hm3).trans hm4
          have hmF : Mod (fun _ => False) w ((w4.setCell ⟨w.heap.size + 1 + 1, 0, none⟩ (.bool nb)).setCell ⟨w.heap.size + 1 + 1, 1, none⟩ (.slice vo4 l4.length vcap4)) := ((hmE.mono (q := fun i => i = w.heap.size + 1 + 1) (fun _ _ f => f.elim)).trans (mod_set2 _ _ _ _)).mono (fun i hi h => by omega)
          have HNE : Hid (NumEnd w tot (a.length + b.length + 4) (.returned (nm2 nb (.slice vo4 l4.length vcap4))) ((w4.setCell ⟨w.heap.size + 1 + 1, 0, none⟩ (.bool nb)).setCell ⟨w.heap.size + 1 + 1, 1, none⟩ (.slice vo4 l4.length vcap4))) :=
            numEnd (l := l4) hmF ⟨hN4.1, owns_set2 hN4.2 hR4 _ _⟩ (by rw [hx4]; exact HTOT.out os hval) (by have := HDL.out; omega)
          clear hN4 hown3 hval hx4 hmE hm3 hm4 hmw
          go_wp2_with fail
          exact bodyPost_ret (by simp [results, Tryz.results153, go_sem, q0, q1]) rfl HNE.out
        · go_region_held3 (fun w' => w'.cell? ⟨w.heap.size, 0, none⟩ = some (.bool true) ∧ w'.cell? ⟨w.heap.size + 1, 0, none⟩ = some (.bool true))
            (first | go_keep | (exact hkeep) | (exact hkeep2))
            (first
              | (go_at_call 186; refine (carried_any (.slice (some ⟨w.heap.size + 1 + 1 + 1, 0, none⟩) (a.length + b.length) (a.length + b.length)) d wr.drew HO6.out HBD.out H0.out HLE.out).mono ?_; rintro e w3 ⟨hm3, v3, os, rfl, hown3, hdig, hval, hlen3⟩; have hkeep := And.intro (hm3.cell (a := wr.drew) hx0) (hm3.cell (a := wr.drew) hy0))
              | (go_at_call 185; refine (made_any false v3 os w3 (owns_base hown3 (Nat.zero_le _)) hdig (by have := HLE.out; omega)).mono ?_; rintro e w4 ⟨hm4, nb, v4, l4, rfl, hN4, hx4, hl4⟩; have hkeep := And.intro (hm4.cell (hm3.cell (a := wr.drew) hx0)) (hm4.cell (hm3.cell (a := wr.drew) hy0)); have hR4 := (hRd.keep hm3 (fun f => f)).keep hm4 (fun f => f); have r0 := hR4.c0; have r1 := hR4.c1; have f0 := hR4.fz 0; have f1 := hR4.fz 1; obtain ⟨vo4, vcap4, rfl, -⟩ := owns_form hN4.2; have hkeep2 := And.intro ((set2_cell (w.heap.size + 1 + 1) w4 (.bool nb) (.slice vo4 l4.length vcap4) w.heap.size 0 (by omega)).trans hkeep.1) ((set2_cell (w.heap.size + 1 + 1) w4 (.bool nb) (.slice vo4 l4.length vcap4) (w.heap.size + 1) 0 (by omega)).trans hkeep.2)))
          have hR5 := hR4.set nb (.slice vo4 l4.length vcap4)
          have q0 := hR5.c0
          have q1 := hR5.c1
          have hmE := (hmw.drew.trans hm3).trans hm4
          have hmF : Mod (fun _ => False) w ((w4.setCell ⟨w.heap.size + 1 + 1, 0, none⟩ (.bool nb)).setCell ⟨w.heap.size + 1 + 1, 1, none⟩ (.slice vo4 l4.length vcap4)) := ((hmE.mono (q := fun i => i = w.heap.size + 1 + 1) (fun _ _ f => f.elim)).trans (mod_set2 _ _ _ _)).mono (fun i hi h => by omega)
          have HNE : Hid (NumEnd w tot (a.length + b.length + 4) (.returned (nm2 nb (.slice vo4 l4.length vcap4))) ((w4.setCell ⟨w.heap.size + 1 + 1, 0, none⟩ (.bool nb)).setCell ⟨w.heap.size + 1 + 1, 1, none⟩ (.slice vo4 l4.length vcap4))) :=
            numEnd (l := l4) hmF ⟨hN4.1, owns_set2 hN4.2 hR4 _ _⟩ (by rw [hx4]; exact HTOT.out os hval) (by have := HDL.out; omega)
          clear hN4 hown3 hval hx4 hmE hm3 hm4 hmw
          go_wp2_with fail
          exact bodyPost_ret (by simp [results, Tryz.results153, go_sem, q0, q1]) rfl HNE.out
end Go.Proofs.YtmnfndpbblpjiabGreatDoor
