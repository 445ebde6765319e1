/- The document's value: an input, a constant, a register's sign. -/
import Derived.Deep.RegionHeld3
import Derived.Test.YtmnfndpbblpjiabGreatDoorZb26
import Derived.Test.YtmnfndpbblpjiabGreatDoorZb04
import Derived.Test.YtmnfndpbblpjiabGreatDoorZb24
import Derived.Test.YtmnfndpbblpjiabGreatDoorZb11
namespace Go.Proofs.YtmnfndpbblpjiabGreatDoor
open Go.RowKit Pu

set_option maxHeartbeats 1600000 in
set_option maxRecDepth 100000 in
theorem value_con (t : Stp) (rv iv : Value) (w : World) (hs : Small t) (hop : t.op = 1)  :
    Calls Tryz.prog 105 #[st4 t, rv, iv] w (NumEnd w ((t.y : Int)) 1) := by
  obtain ⟨s0, s1, s2, s3⟩ := hs
  have hS := stb_new w t
  have hR := nmb_new (w.alloc (.cells #[.int .i64 t.op, .int .i64 t.x, .int .i64 t.y, .int .i64 t.z] 152)) false (.slice none 0 0)
  have m1 : Mod (fun _ => False) w (w.alloc (.cells #[.int .i64 t.op, .int .i64 t.x, .int .i64 t.y, .int .i64 t.z] 152)) := (Mod.refl _ w).alloc _
  have m2 : Mod (fun _ => False) (w.alloc (.cells #[.int .i64 t.op, .int .i64 t.x, .int .i64 t.y, .int .i64 t.z] 152)) ((w.alloc (.cells #[.int .i64 t.op, .int .i64 t.x, .int .i64 t.y, .int .i64 t.z] 152)).alloc (.cells #[.bool false, .slice none 0 0] 154)) := (Mod.refl _ _).alloc _
  have hS2 : Stb ((w.alloc (.cells #[.int .i64 t.op, .int .i64 t.x, .int .i64 t.y, .int .i64 t.z] 152)).alloc (.cells #[.bool false, .slice none 0 0] 154)) w.heap.size t := m2.keep hS (fun f => f)
  have hmW := m1.trans m2
  simp only [World.size_alloc] at hR
  have o0 : ((t.op : Int) == 0) = false := beq_f (m := 0) (by omega)
  have o1 : ((t.op : Int) == 1) = true := beq_t (m := 1) (by omega)
  have o2 : ((t.op : Int) == 2) = false := beq_f (m := 2) (by omega)
  have o3 : ((t.op : Int) == 3) = false := beq_f (m := 3) (by omega)
  have o4 : ((t.op : Int) == 4) = false := beq_f (m := 4) (by omega)
  have e0 := hS2.c0
  have e2 := hS2.c2
  clear hS m1 m2 hop
  go_enter Tryz.func105, Tryz.ntmps105
  go_wp2_with fail
  generalize (w.alloc (.cells #[.int .i64 t.op, .int .i64 t.x, .int .i64 t.y, .int .i64 t.z] 152)).alloc (.cells #[.bool false, .slice none 0 0] 154) = W at *
  refine (of_any (t.y : Int) W (by omega) (by omega)).mono ?_
  rintro e w4 ⟨hm4, nb, v4, l4, rfl, hN4, hx4, hl4⟩
  have hR4 := hR.keep hm4 (fun f => f)
  have r0 := hR4.c0
  have r1 := hR4.c1
  have f0 := hR4.fz 0
  have f1 := hR4.fz 1
  obtain ⟨vo4, vcap4, rfl, -⟩ := owns_form hN4.2
  have hR5 := hR4.set nb (.slice vo4 l4.length vcap4)
  have q0 := hR5.c0
  have q1 := hR5.c1
  have hmE := hmW.trans hm4
  have hmF : Mod (fun _ => False) w ((w4.setCell ⟨w.heap.size + 1, 0, none⟩ (.bool nb)).setCell ⟨w.heap.size + 1, 1, none⟩ (.slice vo4 l4.length vcap4)) := ((hmE.mono (q := fun i => i = w.heap.size + 1) (fun _ _ f => f.elim)).trans (mod_set2 _ _ _ _)).mono (fun i hi h => by omega)
  have HNE : Hid (NumEnd w ((t.y : Int)) 1 (.returned (nm2 nb (.slice vo4 l4.length vcap4))) ((w4.setCell ⟨w.heap.size + 1, 0, none⟩ (.bool nb)).setCell ⟨w.heap.size + 1, 1, none⟩ (.slice vo4 l4.length vcap4))) :=
    numEnd (l := l4) hmF ⟨hN4.1, owns_set2 hN4.2 hR4 _ _⟩ hx4 (by omega)
  clear hN4 hx4 hmE hm4
  go_wp2_with fail
  exact bodyPost_ret (by simp [results, Tryz.results105, go_sem, q0, q1]) rfl HNE.out

set_option maxHeartbeats 1600000 in
set_option maxRecDepth 100000 in
theorem value_in (t : Stp) (rv : Value) (gi n icap : Nat) (x : Int) (w : World) (hs : Small t) (hop : t.op = 0) (hy : t.y < n) (_hn : n ≤ 1000) (h1 : -100 < x) (h2 : x < 100) (cy : w.cell? ⟨gi, t.y, none⟩ = some (.int .i64 x)) :
    Calls Tryz.prog 105 #[st4 t, rv, .slice (some ⟨gi, 0, none⟩) n icap] w (NumEnd w (x) 1) := by
  obtain ⟨s0, s1, s2, s3⟩ := hs
  have hS := stb_new w t
  have hR := nmb_new (w.alloc (.cells #[.int .i64 t.op, .int .i64 t.x, .int .i64 t.y, .int .i64 t.z] 152)) false (.slice none 0 0)
  have m1 : Mod (fun _ => False) w (w.alloc (.cells #[.int .i64 t.op, .int .i64 t.x, .int .i64 t.y, .int .i64 t.z] 152)) := (Mod.refl _ w).alloc _
  have m2 : Mod (fun _ => False) (w.alloc (.cells #[.int .i64 t.op, .int .i64 t.x, .int .i64 t.y, .int .i64 t.z] 152)) ((w.alloc (.cells #[.int .i64 t.op, .int .i64 t.x, .int .i64 t.y, .int .i64 t.z] 152)).alloc (.cells #[.bool false, .slice none 0 0] 154)) := (Mod.refl _ _).alloc _
  have hS2 : Stb ((w.alloc (.cells #[.int .i64 t.op, .int .i64 t.x, .int .i64 t.y, .int .i64 t.z] 152)).alloc (.cells #[.bool false, .slice none 0 0] 154)) w.heap.size t := m2.keep hS (fun f => f)
  have hmW := m1.trans m2
  have d0 := hmW.cell cy
  have i1 : (0 : Int) ≤ (t.y : Int) := by omega
  have i2 : (t.y : Int) < (n : Int) := by omega
  clear cy
  simp only [World.size_alloc] at hR
  have o0 : ((t.op : Int) == 0) = true := beq_t (m := 0) (by omega)
  have o1 : ((t.op : Int) == 1) = false := beq_f (m := 1) (by omega)
  have o2 : ((t.op : Int) == 2) = false := beq_f (m := 2) (by omega)
  have o3 : ((t.op : Int) == 3) = false := beq_f (m := 3) (by omega)
  have o4 : ((t.op : Int) == 4) = false := beq_f (m := 4) (by omega)
  have e0 := hS2.c0
  have e2 := hS2.c2
  clear hS m1 m2 hop
  go_enter Tryz.func105, Tryz.ntmps105
  go_wp2_with fail
  generalize (w.alloc (.cells #[.int .i64 t.op, .int .i64 t.x, .int .i64 t.y, .int .i64 t.z] 152)).alloc (.cells #[.bool false, .slice none 0 0] 154) = W at *
  refine (of_any x W (by omega) (by omega)).mono ?_
  rintro e w4 ⟨hm4, nb, v4, l4, rfl, hN4, hx4, hl4⟩
  have hR4 := hR.keep hm4 (fun f => f)
  have r0 := hR4.c0
  have r1 := hR4.c1
  have f0 := hR4.fz 0
  have f1 := hR4.fz 1
  obtain ⟨vo4, vcap4, rfl, -⟩ := owns_form hN4.2
  have hR5 := hR4.set nb (.slice vo4 l4.length vcap4)
  have q0 := hR5.c0
  have q1 := hR5.c1
  have hmE := hmW.trans hm4
  have hmF : Mod (fun _ => False) w ((w4.setCell ⟨w.heap.size + 1, 0, none⟩ (.bool nb)).setCell ⟨w.heap.size + 1, 1, none⟩ (.slice vo4 l4.length vcap4)) := ((hmE.mono (q := fun i => i = w.heap.size + 1) (fun _ _ f => f.elim)).trans (mod_set2 _ _ _ _)).mono (fun i hi h => by omega)
  have HNE : Hid (NumEnd w (x) 1 (.returned (nm2 nb (.slice vo4 l4.length vcap4))) ((w4.setCell ⟨w.heap.size + 1, 0, none⟩ (.bool nb)).setCell ⟨w.heap.size + 1, 1, none⟩ (.slice vo4 l4.length vcap4))) :=
    numEnd (l := l4) hmF ⟨hN4.1, owns_set2 hN4.2 hR4 _ _⟩ hx4 (by omega)
  clear hN4 hx4 hmE hm4
  go_wp2_with fail
  exact bodyPost_ret (by simp [results, Tryz.results105, go_sem, q0, q1]) rfl HNE.out

set_option maxHeartbeats 1600000 in
set_option maxRecDepth 100000 in
theorem value_sgn (t : Stp) (gr rn rcap : Nat) (iv : Value) (nx : Bool) (u : Value) (a : List Nat) (w : World) (hs : Small t) (hop : 5 ≤ t.op) (hy : t.y < rn) (_hrn : rn ≤ 128) (cy0 : w.cell? ⟨gr, t.y * 2, none⟩ = some (.bool nx)) (cy1 : w.cell? ⟨gr, t.y * 2 + 1, none⟩ = some u) (hU : Nm w nx u a) (la : a.length ≤ 50000) :
    Calls Tryz.prog 105 #[st4 t, .slice (some ⟨gr, 0, none⟩) rn rcap, iv] w (NumEnd w (sgI (num nx a)) 1) := by
  obtain ⟨s0, s1, s2, s3⟩ := hs
  have hS := stb_new w t
  have hR := nmb_new (w.alloc (.cells #[.int .i64 t.op, .int .i64 t.x, .int .i64 t.y, .int .i64 t.z] 152)) false (.slice none 0 0)
  have m1 : Mod (fun _ => False) w (w.alloc (.cells #[.int .i64 t.op, .int .i64 t.x, .int .i64 t.y, .int .i64 t.z] 152)) := (Mod.refl _ w).alloc _
  have m2 : Mod (fun _ => False) (w.alloc (.cells #[.int .i64 t.op, .int .i64 t.x, .int .i64 t.y, .int .i64 t.z] 152)) ((w.alloc (.cells #[.int .i64 t.op, .int .i64 t.x, .int .i64 t.y, .int .i64 t.z] 152)).alloc (.cells #[.bool false, .slice none 0 0] 154)) := (Mod.refl _ _).alloc _
  have hS2 : Stb ((w.alloc (.cells #[.int .i64 t.op, .int .i64 t.x, .int .i64 t.y, .int .i64 t.z] 152)).alloc (.cells #[.bool false, .slice none 0 0] 154)) w.heap.size t := m2.keep hS (fun f => f)
  have hmW := m1.trans m2
  obtain ⟨ao, acap, rfl, -⟩ := owns_form hU.2
  have hU3 := hU.mod hmW
  have d0 := hmW.cell cy0
  have d1 := hmW.cell cy1
  have i1 : (0 : Int) ≤ (t.y : Int) := by omega
  have i2 : (t.y : Int) < (rn : Int) := by omega
  have hg1 : -1 ≤ sgI (num nx a) := by
    unfold sgI; repeat' split
    all_goals omega
  have hg2 : sgI (num nx a) ≤ 1 := by
    unfold sgI; repeat' split
    all_goals omega
  clear cy0 cy1 hU
  simp only [World.size_alloc] at hR
  have o0 : ((t.op : Int) == 0) = false := beq_f (m := 0) (by omega)
  have o1 : ((t.op : Int) == 1) = false := beq_f (m := 1) (by omega)
  have o2 : ((t.op : Int) == 2) = false := beq_f (m := 2) (by omega)
  have o3 : ((t.op : Int) == 3) = false := beq_f (m := 3) (by omega)
  have o4 : ((t.op : Int) == 4) = false := beq_f (m := 4) (by omega)
  have e0 := hS2.c0
  have e2 := hS2.c2
  clear hS m1 m2 hop
  go_enter Tryz.func105, Tryz.ntmps105
  go_wp2_with fail
  generalize (w.alloc (.cells #[.int .i64 t.op, .int .i64 t.x, .int .i64 t.y, .int .i64 t.z] 152)).alloc (.cells #[.bool false, .slice none 0 0] 154) = W at *
  refine (sign_any nx (.slice ao a.length acap) a W hU3 (by omega)).mono ?_
  rintro e w3 ⟨rfl, hm3⟩
  replace hR := hR.keep hm3 (fun f => f)
  replace hmW := hmW.trans hm3
  clear hm3
  go_wp2_with fail
  refine (of_any (sgI (num nx a)) w3 (by omega) (by omega)).mono ?_
  rintro e w4 ⟨hm4, nb, v4, l4, rfl, hN4, hx4, hl4⟩
  have hR4 := hR.keep hm4 (fun f => f)
  have r0 := hR4.c0
  have r1 := hR4.c1
  have f0 := hR4.fz 0
  have f1 := hR4.fz 1
  obtain ⟨vo4, vcap4, rfl, -⟩ := owns_form hN4.2
  have hR5 := hR4.set nb (.slice vo4 l4.length vcap4)
  have q0 := hR5.c0
  have q1 := hR5.c1
  have hmE := hmW.trans hm4
  have hmF : Mod (fun _ => False) w ((w4.setCell ⟨w.heap.size + 1, 0, none⟩ (.bool nb)).setCell ⟨w.heap.size + 1, 1, none⟩ (.slice vo4 l4.length vcap4)) := ((hmE.mono (q := fun i => i = w.heap.size + 1) (fun _ _ f => f.elim)).trans (mod_set2 _ _ _ _)).mono (fun i hi h => by omega)
  have HNE : Hid (NumEnd w (sgI (num nx a)) 1 (.returned (nm2 nb (.slice vo4 l4.length vcap4))) ((w4.setCell ⟨w.heap.size + 1, 0, none⟩ (.bool nb)).setCell ⟨w.heap.size + 1, 1, none⟩ (.slice vo4 l4.length vcap4))) :=
    numEnd (l := l4) hmF ⟨hN4.1, owns_set2 hN4.2 hR4 _ _⟩ hx4 (by omega)
  clear hN4 hx4 hmE hm4
  go_wp2_with fail
  exact bodyPost_ret (by simp [results, Tryz.results105, go_sem, q0, q1]) rfl HNE.out

end Go.Proofs.YtmnfndpbblpjiabGreatDoor

/- The document's registers, and its value of any right step. -/
namespace Go.Proofs.YtmnfndpbblpjiabGreatDoor
open Go.RowKit Pu

/-- The registers in memory: each number of at most 2000 digits of base 10000. -/
def Rgs (w : World) (rb : Nat) (R : List Int) : Prop := R.length = 128 ∧ (∃ C, w.heap[rb]? = some (.cells C 154 (0, 0)) ∧ C.size = 256) ∧
  ∀ r, r < 128 → ∃ nx u a, w.cell? ⟨rb, r * 2, none⟩ = some (.bool nx) ∧ w.cell? ⟨rb, r * 2 + 1, none⟩ = some u ∧ Nm w nx u a ∧ num nx a = reg R r ∧ a.length ≤ 2000
theorem Rgs.mod {w w' : World} {rb : Nat} {R : List Int} (h : Rgs w rb R) (hm : Mod (fun _ => False) w w') : Rgs w' rb R := by
  obtain ⟨h1, ⟨C, h2, h3⟩, h4⟩ := h
  refine ⟨h1, ⟨C, hm.keep h2 (fun f => f), h3⟩, fun r hr => ?_⟩
  obtain ⟨nx, u, a, c0, c1, hN, hx, hl⟩ := h4 r hr
  exact ⟨nx, u, a, hm.cell c0, hm.cell c1, hN.mod hm, hx, hl⟩
theorem Rgs.lt {w : World} {rb : Nat} {R : List Int} (h : Rgs w rb R) : rb < w.heap.size := by
  obtain ⟨C, h2, -⟩ := h.2.1
  exact lt_of_block h2
theorem Rgs.fz {w : World} {rb : Nat} {R : List Int} (h : Rgs w rb R) (i : Nat) : w.frozen? ⟨rb, i, none⟩ = false := by
  obtain ⟨C, h2, -⟩ := h.2.1
  simp [World.frozen?, h2]
/-- Two cells of a block set. -/
def set2at (w : World) (b o : Nat) (x y : Value) : World := (w.setCell ⟨b, o, none⟩ x).setCell ⟨b, o + 1, none⟩ y
theorem set2at_own (w : World) (b o : Nat) (x y : Value) : Mod (fun q => q = b) w (set2at w b o x y) := by
  have h0 : Mod (fun q => q = b) w (w.setCell ⟨b, o, none⟩ x) := (Mod.refl _ w).setCell ⟨b, o, none⟩ x (fun _ => rfl)
  exact h0.setCell ⟨b, o + 1, none⟩ y (fun _ => rfl)
theorem set2at_new {p : Nat → Prop} {a w : World} (h : Mod p a w) (b o : Nat) (x y : Value) (hb : a.heap.size ≤ b) : Mod p a (set2at w b o x y) := by
  have h0 := h.setCell ⟨b, o, none⟩ x (fun h => absurd h (Nat.not_lt.2 hb))
  exact h0.setCell ⟨b, o + 1, none⟩ y (fun h => absurd h (Nat.not_lt.2 hb))
theorem set2at_block {w : World} {b o : Nat} {x y : Value} {C : Array Value} {t : TypeId} (h : w.heap[b]? = some (.cells C t (0, 0))) : (set2at w b o x y).heap[b]? = some (.cells ((C.setIfInBounds o x).setIfInBounds (o + 1) y) t (0, 0)) := by
  have h0 : (w.setCell ⟨b, o, none⟩ x).heap[b]? = some (.cells (C.setIfInBounds o x) t (0, 0)) := by simp [World.setCell, Array.getElem?_modify, h]
  unfold set2at
  generalize w.setCell ⟨b, o, none⟩ x = w1 at *
  simp [World.setCell, Array.getElem?_modify, h0]
theorem set2at_cell {w : World} {b o : Nat} {x y : Value} {C : Array Value} {t : TypeId} (h : w.heap[b]? = some (.cells C t (0, 0))) (i : Nat) : (set2at w b o x y).cell? ⟨b, i, none⟩ = if i = o + 1 ∧ i < C.size then some y else if i = o ∧ i < C.size then some x else w.cell? ⟨b, i, none⟩ := by
  have e : (set2at w b o x y).cell? ⟨b, i, none⟩ = ((C.setIfInBounds o x).setIfInBounds (o + 1) y)[i]? := by simp only [World.cell?, set2at_block h]; simp
  have e2 : w.cell? ⟨b, i, none⟩ = C[i]? := by simp only [World.cell?, h]; simp
  rw [e, e2, Array.getElem?_setIfInBounds, Array.getElem?_setIfInBounds]
  by_cases a : i = o + 1
  · subst a
    by_cases hs : o + 1 < C.size <;> simp [hs]
  · by_cases c : i = o
    · subst c
      by_cases hs : i < C.size <;> simp [hs]
    · simp [a, c, show ¬ o + 1 = i from fun hh => a hh.symm, show ¬ o = i from fun hh => c hh.symm]
theorem Nm.apart {w w' : World} {rb : Nat} {nx : Bool} {u : Value} {a : List Nat} (h : Nm w nx u a) (hm : Mod (fun q => q = rb) w w') {C : Array Value} (hb : w.heap[rb]? = some (.cells C 154 (0, 0))) : Nm w' nx u a := by
  refine ⟨h.1, owns_mod' h.2 hm (fun g h1 h2 => ?_)⟩
  subst h2
  obtain ⟨_, ⟨rfl, _⟩ | ⟨g', cap, cur, rfl, _, hg, _⟩⟩ := h.2
  · simp [Value.ownBlock] at h1
  · simp [Value.ownBlock] at h1
    subst h1
    rw [hb] at hg
    simp at hg
theorem Rgs.set {w : World} {rb : Nat} {R : List Int} {nb : Bool} {v : Value} {l : List Nat} (h : Rgs w rb R) {x : Nat} (hx : x < 128) (hN : Nm w nb v l) (hl : l.length ≤ 2000) : Rgs (set2at w rb (x * 2) (.bool nb) v) rb (R.set x (num nb l)) := by
  obtain ⟨h1, ⟨C, h2, h3⟩, h4⟩ := h
  refine ⟨by simpa using h1, ⟨_, set2at_block h2, by simpa using h3⟩, fun r hr => ?_⟩
  have hm := set2at_own w rb (x * 2) (.bool nb) v
  rw [set2at_cell h2, set2at_cell h2]
  by_cases e : r = x
  · subst e
    refine ⟨nb, v, l, by rw [if_neg (by omega), if_pos (by omega)], by rw [if_pos (by omega)], hN.apart hm h2, ?_, hl⟩
    simp [reg, h1, hr]
  · obtain ⟨nx, u, a, c0, c1, hN', hx', hl'⟩ := h4 r hr
    refine ⟨nx, u, a, by rw [if_neg (by omega), if_neg (by omega)]; exact c0, by rw [if_neg (by omega), if_neg (by omega)]; exact c1, hN'.apart hm h2, ?_, hl'⟩
    rw [hx']
    simp [reg, show ¬ x = r from fun hh => e hh.symm]

/-- What a step of a right code keeps to. -/
def Good (n : Nat) (t : Stp) : Prop := Small t ∧ t.op ≤ 7 ∧ t.x < 128 ∧ (2 ≤ t.op ∧ t.op ≤ 5 → t.y < 128) ∧ (2 ≤ t.op ∧ t.op ≤ 4 → t.z < 128) ∧ (t.op = 0 → t.y < n) ∧ (t.op = 7 → t.y < 3 ∧ t.z < 16)
theorem Pu.sgn_eq (x : Int) : sgn x = sgI x := rfl

theorem value_any (t : Stp) (rb rcap : Nat) (iv : Value) (R ins : List Int) (base : Nat) (w : World) (hg : Good ins.length t) (hop : t.op < 6) (hR : Rgs w rb R) (hI : w.ownsRow base 3 1 iv ins.length (zvs ins)) (hn : ins.length ≤ 1000) (hi : ∀ x ∈ ins, -100 < x ∧ x < 100) :
    Calls Tryz.prog 105 #[st4 t, .slice (some ⟨rb, 0, none⟩) 128 rcap, iv] w (NumEnd w (Pu.valOf t R ins) 4004) := by
  obtain ⟨hs, -, -, hy, hz, h0, -⟩ := hg
  have hlt := hR.lt
  have hb : ∀ {x : Int} {n : Nat} (_ : n ≤ 4004) (e : Ending) (w' : World), NumEnd w x n e w' → NumEnd w x 4004 e w' := fun hn e w' h => by
    obtain ⟨hm, nb, v', l, he, hN, hx, hl⟩ := h
    exact ⟨hm, nb, v', l, he, hN, hx, Nat.le_trans hl hn⟩
  have hc : t.op = 0 ∨ t.op = 1 ∨ t.op = 2 ∨ t.op = 3 ∨ t.op = 4 ∨ t.op = 5 := by omega
  rcases hc with e | e | e | e | e | e
  · have hyl : t.y < ins.length := h0 e
    obtain ⟨io, icap, rfl, -⟩ := owns_form hI
    obtain ⟨gi, rfl, ci⟩ := zvs_cell hI rfl hyl
    obtain ⟨b1, b2⟩ := hi _ (List.getElem_mem hyl)
    have := value_in t (.slice (some ⟨rb, 0, none⟩) 128 rcap) gi ins.length icap ins[t.y] w hs e hyl hn b1 b2 ci
    rw [show Pu.valOf t R ins = ins[t.y] by simp [Pu.valOf, e, hyl]]
    exact this.mono (hb (by omega))
  · rw [show Pu.valOf t R ins = (t.y : Int) by simp [Pu.valOf, e]]
    exact (value_con t _ iv w hs e).mono (hb (by omega))
  · obtain ⟨nx, u, a, c0, c1, hU, hx, la⟩ := hR.2.2 t.y (hy (by omega))
    obtain ⟨ny, v, b, d0, d1, hV, hx', lb⟩ := hR.2.2 t.z (hz (by omega))
    rw [show Pu.valOf t R ins = num nx a + num ny b by simp [Pu.valOf, e, hx, hx']]
    exact (value_add t rb 128 rcap iv nx ny u v a b w hs e (hy (by omega)) (hz (by omega)) (by omega) hlt c0 c1 d0 d1 hU hV (by omega) (by omega)).mono (hb (by omega))
  · obtain ⟨nx, u, a, c0, c1, hU, hx, la⟩ := hR.2.2 t.y (hy (by omega))
    obtain ⟨ny, v, b, d0, d1, hV, hx', lb⟩ := hR.2.2 t.z (hz (by omega))
    rw [show Pu.valOf t R ins = num nx a - num ny b by simp [Pu.valOf, e, hx, hx']]
    exact (value_sub t rb 128 rcap iv nx ny u v a b w hs e (hy (by omega)) (hz (by omega)) (by omega) hlt c0 c1 d0 d1 hU hV (by omega) (by omega)).mono (hb (by omega))
  · obtain ⟨nx, u, a, c0, c1, hU, hx, la⟩ := hR.2.2 t.y (hy (by omega))
    obtain ⟨ny, v, b, d0, d1, hV, hx', lb⟩ := hR.2.2 t.z (hz (by omega))
    rw [show Pu.valOf t R ins = num nx a * num ny b by simp [Pu.valOf, e, hx, hx']]
    exact (value_mul t rb 128 rcap iv nx ny u v a b w hs e (hy (by omega)) (hz (by omega)) (by omega) hlt c0 c1 d0 d1 hU hV (by omega) (by omega)).mono (hb (by omega))
  · obtain ⟨nx, u, a, c0, c1, hU, hx, la⟩ := hR.2.2 t.y (hy (by omega))
    rw [show Pu.valOf t R ins = sgI (num nx a) by simp [Pu.valOf, e, hx, sgn_eq]]
    exact (value_sgn t rb 128 rcap iv nx u a w hs (by omega) (hy (by omega)) (by omega) c0 c1 hU (by omega)).mono (hb (by omega))
end Go.Proofs.YtmnfndpbblpjiabGreatDoor

/- The program's numbers: made of a sign and limbs, of an int; their sign, how many digits. -/
namespace Go.Proofs.YtmnfndpbblpjiabGreatDoor
open Go.RowKit Pu

abbrev n9 (nb : Bool) (v : Value) : Value := .agg #[.bool nb, v]
def N9 (w : World) (nb : Bool) (v : Value) (l : List Nat) : Prop := C9 nb l ∧ w.ownsRow 0 188 1 v l.length (uvs l)
theorem N9.mod {w w' : World} {nb : Bool} {v : Value} {l : List Nat} (h : N9 w nb v l) (hm : Mod (fun _ => False) w w') : N9 w' nb v l := ⟨h.1, owns_mod h.2 hm (fun _ _ f => f)⟩
def N9E (w : World) (x : Int) (n : Nat) (e : Ending) (w' : World) : Prop := Mod (fun _ => False) w w' ∧ ∃ nb v l, e = .returned (n9 nb v) ∧ N9 w' nb v l ∧ num9 nb l = x ∧ l.length ≤ n
theorem own_apart {w w' : World} {rb base n : Nat} {u : Value} {xs : List Value} {t : TypeId} (h : w.ownsRow base 188 1 u n xs) (hm : Mod (fun q => q = rb) w w') {C : Array Value} (hb : w.heap[rb]? = some (.cells C t (0, 0))) (ht : t ≠ 188) : w'.ownsRow base 188 1 u n xs := by
  refine owns_mod' h hm (fun g h1 h2 => ?_)
  subst h2
  obtain ⟨_, ⟨rfl, _⟩ | ⟨g', cap, cur, rfl, _, hg, _⟩⟩ := h
  · simp [Value.ownBlock] at h1
  · simp [Value.ownBlock] at h1
    subst h1
    rw [hb] at hg
    simp at hg
    exact ht hg.2
theorem n9_end {w wX : World} {b base n : Nat} {o1 o2 : Value} {nb : Bool} {v : Value} {l : List Nat} {x : Int} (hb : wX.heap[b]? = some (.cells #[o1, o2] 141 (0, 0))) (hw : w.heap.size ≤ b) (hm : Mod (fun _ => False) w wX) (hO : wX.ownsRow base 188 1 v l.length (uvs l)) (hc : C9 nb l) (hx : num9 nb l = x) (hn : l.length ≤ n) :
    N9E w x n (.returned (n9 nb v)) (set2at wX b 0 (.bool nb) v) ∧ (set2at wX b 0 (.bool nb) v).cell? ⟨b, 0, none⟩ = some (.bool nb) ∧ (set2at wX b 0 (.bool nb) v).cell? ⟨b, 1, none⟩ = some v := by
  refine ⟨⟨set2at_new hm b 0 _ _ hw, nb, v, l, rfl, ⟨hc, own_apart (owns_base hO (Nat.zero_le _)) (set2at_own wX b 0 (.bool nb) v) hb (by decide)⟩, hx, hn⟩, ?_, ?_⟩
  · rw [set2at_cell hb]; simp
  · rw [set2at_cell hb]; simp
theorem c2_of {w : World} {b : Nat} {x y : Value} {ty : TypeId} (h : w.heap[b]? = some (.cells #[x, y] ty (0, 0))) : w.cell? ⟨b, 0, none⟩ = some x ∧ w.cell? ⟨b, 1, none⟩ = some y := by simp [World.cell?, h]
theorem Pu.C9.nil : C9 false [] := ⟨fun _ h => by simp at h, fun _ h => by simp at h, fun _ => rfl⟩

set_option maxHeartbeats 800000 in
theorem signed_any (nb : Bool) (v : Value) (l : List Nat) (base : Nat) (w : World) (hO : w.ownsRow base 188 1 v l.length (uvs l)) (hd : D9 l) (ht : T9 l) (hl : l.length ≤ 100000) :
    Calls Tryz.prog 200 #[.bool nb, v] w (N9E w (num9 nb l) l.length) := by
  obtain ⟨ao, cap, rfl, -⟩ := owns_form hO
  by_cases h0 : l.length = 0
  · have hl0 : l = [] := List.eq_nil_of_length_eq_zero h0
    have hb : ((l.length : Int) == 0) = true := beq_t (m := 0) h0
    have HE : Hid (N9E w (num9 nb l) l.length (.returned (n9 false (.slice none 0 0))) (w.alloc (.cells #[.bool false, .slice none 0 0] 141))) :=
      ⟨(Mod.refl _ w).alloc _, false, .slice none 0 0, [], rfl, ⟨C9.nil, World.ownsRow_nil _ _ _ _⟩, by subst hl0; cases nb <;> simp [num9, v9], Nat.zero_le _⟩
    clear hl0 h0
    go_enter Tryz.func200, Tryz.ntmps200
    go_wp2_with fail
    exact bodyPost_ret (v := n9 false (.slice none 0 0)) (by simp [results, Tryz.results200, go_sem]) rfl HE.out
  · have hb : ((l.length : Int) == 0) = false := beq_f (m := 0) h0
    have HE : Hid (N9E w (num9 nb l) l.length (.returned (n9 nb (.slice ao l.length cap))) (w.alloc (.cells #[.bool nb, .slice ao l.length cap] 141))) :=
      ⟨(Mod.refl _ w).alloc _, nb, .slice ao l.length cap, l, rfl, ⟨⟨hd, ht, fun e => absurd (by rw [e]; rfl) h0⟩, owns_base (owns_mod hO ((Mod.refl (fun _ => False) w).alloc _) (fun _ _ f => f)) (Nat.zero_le _)⟩, rfl, Nat.le_refl _⟩
    clear h0
    go_enter Tryz.func200, Tryz.ntmps200
    go_wp2_with fail
    exact bodyPost_ret (v := n9 nb (.slice ao l.length cap)) (by simp [results, Tryz.results200, go_sem]) rfl HE.out

set_option maxHeartbeats 800000 in
theorem sign9_any (nb : Bool) (v : Value) (l : List Nat) (w : World) (hN : N9 w nb v l) (hl : l.length ≤ 100000) : Calls Tryz.prog 139 #[n9 nb v] w fun e w' => e = .returned (.int .i64 (sgn (num9 nb l))) ∧ Mod (fun _ => False) w w' := by
  obtain ⟨ao, cap, rfl, -⟩ := owns_form hN.2
  have hmA : Mod (fun _ => False) w (w.alloc (.cells #[.bool nb, .slice ao l.length cap] 141)) := (Mod.refl _ w).alloc _
  by_cases h0 : l.length = 0
  · have hl0 : l = [] := List.eq_nil_of_length_eq_zero h0
    have hb : ((l.length : Int) == 0) = true := beq_t (m := 0) h0
    have HE : Hid (sgn (num9 nb l) = 0) := show _ = _ by subst hl0; cases nb <;> simp [num9, v9, sgn]
    clear hl0 h0
    go_enter Tryz.func139, Tryz.ntmps139
    go_wp2_with fail
    go_ret
    exact ⟨by rw [HE.out]; rfl, hmA⟩
  · have hb : ((l.length : Int) == 0) = false := beq_f (m := 0) h0
    have hp : 0 < v9 l := Nat.pos_of_ne_zero fun e => h0 (by rw [v9_nil hN.1.2.1 e]; rfl)
    clear h0
    cases nb
    · have HE : Hid (sgn (num9 false l) = 1) := show _ = _ by unfold sgn num9; simp; omega
      go_enter Tryz.func139, Tryz.ntmps139
      go_wp2_with fail
      go_ret
      exact ⟨by rw [HE.out]; rfl, hmA⟩
    · have HE : Hid (sgn (num9 true l) = -1) := show _ = _ by unfold sgn num9; simp; omega
      go_enter Tryz.func139, Tryz.ntmps139
      go_wp2_with fail
      go_ret
      exact ⟨by rw [HE.out]; rfl, hmA⟩

set_option maxHeartbeats 800000 in
theorem fromint_any (x : Int) (w : World) (h1 : -1000000 < x) (h2 : x < 1000000) : Calls Tryz.prog 192 #[.int .i64 x] w (N9E w x 3) := by
  have hR0 := heap_alloc_new w (.cells #[.bool false, .slice none 0 0] 141)
  have hm0 : Mod (fun _ => False) w (w.alloc (.cells #[.bool false, .slice none 0 0] 141)) := (Mod.refl _ w).alloc _
  have HH : Hid _ := And.intro hR0 hm0
  clear hR0 hm0
  by_cases hx : x < 0
  · obtain ⟨n, rfl⟩ : ∃ n : Nat, x = -(n : Int) := ⟨x.natAbs, by omega⟩
    have hn : n ≤ 1000000 := by omega
    have hn0 : 0 < n := by omega
    have w1 : IntKind.i64.wrap (-(n : Int) + 1) = -(n : Int) + 1 := by simp [IntKind.wrap, IntKind.signed, IntKind.bits]; omega
    have w2 : IntKind.i64.wrap (-(-(n : Int) + 1)) = (n : Int) - 1 := by simp [IntKind.wrap, IntKind.signed, IntKind.bits]; omega
    have w3 : IntKind.u64.wrap ((n : Int) - 1) = (n : Int) - 1 := wrap_u64 (by omega) (by omega)
    have w4 : IntKind.u64.wrap ((n : Int) - 1 + 1) = (n : Int) := by rw [wrap_u64 (by omega) (by omega)]; omega
    have w5 : IntKind.u64.wrap (n : Int) = (n : Int) := wrap_u64 (by omega) (by omega)
    go_enter Tryz.func192, Tryz.ntmps192
    go_wp2_with fail
    obtain ⟨hR0, hm0⟩ := HH.out
    generalize w.alloc (.cells #[.bool false, .slice none 0 0] 141) = W at *
    refine (limbs_any n W hn).mono ?_
    rintro e w2 ⟨hm2, v2, l2, rfl, hO2, hd2, ht2, hv2, hl2⟩
    have hR2 := hm2.keep hR0 (fun f => f)
    obtain ⟨r0, r1⟩ := c2_of hR2
    have f0 := fz3 hR2 0
    have f1 := fz3 hR2 1
    obtain ⟨vo, vcap, rfl, -⟩ := owns_form hO2
    have HE : Hid _ := n9_end (x := -(n : Int)) hR2 (Nat.le_refl _) (hm0.trans hm2) hO2 (nb := true) ⟨hd2, ht2, fun e => by rw [e] at hv2; simp [v9] at hv2; omega⟩ (show num9 true l2 = _ by simp [num9, hv2]) hl2
    clear hR2 hm2 hO2 hd2 ht2 hv2 HH hR0 hm0
    go_wp2_with fail
    obtain ⟨k1, q0, q1⟩ := HE.out
    unfold set2at at q0 q1
    exact bodyPost_ret (by simp [results, Tryz.results192, go_sem, q0, q1]) rfl k1
  · obtain ⟨n, rfl⟩ : ∃ n : Nat, x = (n : Int) := ⟨x.toNat, by omega⟩
    have hn : n ≤ 1000000 := by omega
    have w5 : IntKind.u64.wrap (n : Int) = (n : Int) := wrap_u64 (by omega) (by omega)
    have hx2 : ¬ (n : Int) < 0 := by omega
    go_enter Tryz.func192, Tryz.ntmps192
    go_wp2_with fail
    obtain ⟨hR0, hm0⟩ := HH.out
    generalize w.alloc (.cells #[.bool false, .slice none 0 0] 141) = W at *
    refine (limbs_any n W hn).mono ?_
    rintro e w2 ⟨hm2, v2, l2, rfl, hO2, hd2, ht2, hv2, hl2⟩
    have hR2 := hm2.keep hR0 (fun f => f)
    obtain ⟨r0, r1⟩ := c2_of hR2
    have f0 := fz3 hR2 0
    have f1 := fz3 hR2 1
    obtain ⟨vo, vcap, rfl, -⟩ := owns_form hO2
    have HE : Hid _ := n9_end (x := (n : Int)) hR2 (Nat.le_refl _) (hm0.trans hm2) hO2 (nb := false) ⟨hd2, ht2, fun _ => rfl⟩ (show num9 false l2 = _ by simp [num9, hv2]) hl2
    clear hR2 hm2 hO2 hd2 ht2 hv2 HH hR0 hm0
    go_wp2_with fail
    obtain ⟨k1, q0, q1⟩ := HE.out
    unfold set2at at q0 q1
    exact bodyPost_ret (by simp [results, Tryz.results192, go_sem, q0, q1]) rfl k1
end Go.Proofs.YtmnfndpbblpjiabGreatDoor

/- How many decimal digits a number of the program's has. -/
namespace Go.Proofs.YtmnfndpbblpjiabGreatDoor
open Go.RowKit Pu

theorem Pu.pow9 (m : Nat) : 1000000000 ^ m = 10 ^ (9 * m) := by rw [show (1000000000 : Nat) = 10 ^ 9 from rfl, ← Nat.pow_mul]
theorem Pu.digits_iff {l b : List Nat} {t j n : Nat} (hl : l = b ++ [t]) (hd : D9 l) (hj : j = 0 ∨ 10 ^ (j - 1) ≤ t) (hj2 : t < 10 ^ j) (ht : t ≠ 0) : n < 9 * b.length + j ↔ 10 ^ n ≤ v9 l := by
  subst hl
  have hb : D9 b := fun d h => hd d (List.mem_append_left _ h)
  have h1 := v9_lt hb
  rw [v9_append]
  simp only [v9, Nat.mul_zero, Nat.add_zero]
  rw [pow9] at *
  have hj0 : j ≠ 0 := by intro e; subst e; simp at hj2; omega
  have hlow : 10 ^ (j - 1) ≤ t := by rcases hj with h | h; (· omega); exact h
  constructor
  · intro hn
    have a1 : 10 ^ (9 * b.length) * 10 ^ (j - 1) ≤ 10 ^ (9 * b.length) * t := Nat.mul_le_mul_left _ hlow
    rw [← Nat.pow_add] at a1
    have a2 : 10 ^ n ≤ 10 ^ (9 * b.length + (j - 1)) := Nat.pow_le_pow_right (by omega) (by omega)
    omega
  · intro hv
    by_cases hn : n < 9 * b.length + j
    · exact hn
    · exfalso
      have a1 : 10 ^ (9 * b.length) * (t + 1) ≤ 10 ^ (9 * b.length) * 10 ^ j := Nat.mul_le_mul_left _ hj2
      rw [← Nat.pow_add, Nat.mul_add] at a1
      have a2 : 10 ^ (9 * b.length + j) ≤ 10 ^ n := Nat.pow_le_pow_right (by omega) (by omega)
      omega

set_option maxHeartbeats 800000 in
set_option maxRecDepth 4000 in
theorem digits_any (nb : Bool) (v : Value) (l : List Nat) (w : World) (hN : N9 w nb v l) (hl : l.length ≤ 50000) : Calls Tryz.prog 178 #[n9 nb v] w fun e w' => (∃ d : Nat, e = .returned (.int .i64 (d : Int)) ∧ d ≤ 1000000 ∧ ∀ n, 1 ≤ n → (n < d ↔ 10 ^ n ≤ v9 l)) ∧ Mod (fun _ => False) w w' := by
  obtain ⟨hd, ht, -⟩ := hN.1
  obtain ⟨ao, cap, rfl, -⟩ := owns_form hN.2
  have hO := hN.2
  have hm0 : Mod (fun _ => False) w (w.alloc (.cells #[.bool nb, .slice ao l.length cap] 141)) := (Mod.refl _ w).alloc _
  have hO0 := owns_mod hO hm0 (fun _ _ f => f)
  clear hN hO
  by_cases h0 : l = []
  · have HR : Hid (∀ n, 1 ≤ n → (n < 1 ↔ 10 ^ n ≤ v9 l)) := fun n hn => by
      have : 0 < 10 ^ n := Nat.pow_pos (by omega)
      rw [h0]; simp [v9]; omega
    have hb : ((l.length : Int) == 0) = true := by subst h0; rfl
    have hlz : l.length = 0 := by rw [h0]; rfl
    have HLZ : l.length ≤ 0 := by omega
    clear h0 hlz
    go_enter Tryz.func178, Tryz.ntmps178
    go_wp2_with fail
    go_ret
    exact ⟨⟨1, rfl, by omega, HR.out⟩, hm0⟩
  · obtain ⟨b, t, hbt⟩ : ∃ b t, l = b ++ [t] := ⟨l.dropLast, l.getLast h0, (List.dropLast_concat_getLast h0).symm⟩
    have HBT : Hid (l = b ++ [t]) := hbt
    have hlb : l.length = b.length + 1 := by rw [hbt]; simp
    have ht0 : t ≠ 0 := ht t (by rw [hbt]; simp)
    have ht9 : t < 1000000000 := hd t (by rw [hbt]; simp)
    have hb : ((l.length : Int) == 0) = false := by rw [beq_eq_false_iff_ne]; omega
    have hkl : b.length < l.length := by omega
    obtain ⟨gb, rfl, ct0⟩ := uvs_cell hO0 rfl hkl
    have hlt' : l[b.length] = t := by
      have : l[b.length]? = some t := by rw [hbt]; simp
      rw [List.getElem?_eq_getElem hkl] at this
      injection this
    rw [hlt'] at ct0
    clear hbt hlt' hO0
    have HV : Hid (∀ (j n : Nat), (j = 0 ∨ 10 ^ (j - 1) ≤ t) → t < 10 ^ j → (n < 9 * b.length + j ↔ 10 ^ n ≤ v9 l)) := fun j n h1 h2 => digits_iff HBT.out hd h1 h2 ht0
    generalize v9 l = vv at *
    rw [hlb] at ct0 hm0 hb ⊢
    have hbl : b.length ≤ 50000 := by omega
    clear hlb hkl hl h0 HBT
    go_enter Tryz.func178, Tryz.ntmps178
    go_wp2_with fail
    go_loop [4, 5] (fun kv pv => ∃ (j u : Nat), j ≤ 9 ∧ Hid (u = t / 10 ^ j) ∧ u < 1000000000 ∧ kv = .int .i64 (9 * (b.length : Int) + (j : Int)) ∧ pv = .int .u64 u ∧ Hid (j = 0 ∨ 10 ^ (j - 1) ≤ t)) (fun _ pv => (intOf pv).toNat)
    case atStart => exact ⟨0, t, by omega, show t = t / 10 ^ 0 by simp, by omega, by simp; omega, rfl, .inl rfl⟩
    case round =>
      obtain ⟨j, u, hj, HU, hu, rfl, rfl, HJ⟩ := hrel
      by_cases hpt : 0 < u
      · have h10 : 10 ^ j ≤ t := by
          refine Nat.le_of_not_lt fun h => ?_
          have := HU.out
          rw [Nat.div_eq_of_lt h] at this
          omega
        have hj9 : j < 9 := by
          refine Nat.lt_of_not_le fun h => ?_
          have : 10 ^ 9 ≤ 10 ^ j := Nat.pow_le_pow_right (by omega) h
          omega
        have HU2 : Hid (u / 10 = t / 10 ^ (j + 1)) := show _ = _ by rw [HU.out, Nat.div_div_eq_div_mul, Nat.pow_succ]
        have HJ2 : Hid (j + 1 = 0 ∨ 10 ^ (j + 1 - 1) ≤ t) := .inr h10
        clear h10 HU HJ
        go_wp2_with fail
        go_round
        case rel => exact ⟨j + 1, u / 10, by omega, HU2, by omega, by go_num, by go_num, HJ2⟩
        case measure => simp [intOf]; omega
      · have h10 : t < 10 ^ j := by
          have h := HU.out
          have : t / 10 ^ j = 0 := by omega
          rcases Nat.div_eq_zero_iff.1 this with h | h
          · have : 0 < 10 ^ j := Nat.pow_pos (by omega)
            omega
          · exact h
        have HR : Hid (∀ n, 1 ≤ n → (n < 9 * b.length + j ↔ 10 ^ n ≤ vv)) := fun n _ => HV.out j n HJ.out h10
        clear h10 HU HJ
        go_wp2_with fail
        go_ret
        exact ⟨⟨9 * b.length + j, by simp, by omega, HR.out⟩, hm0⟩
end Go.Proofs.YtmnfndpbblpjiabGreatDoor

/- Sums of the program's numbers. -/
namespace Go.Proofs.YtmnfndpbblpjiabGreatDoor
open Go.RowKit Pu

theorem Pu.num9_same (nb : Bool) {l m k : List Nat} (h : v9 k = v9 l + v9 m) : num9 nb k = num9 nb l + num9 nb m := by
  cases nb <;> simp [num9, h] <;> omega
theorem Pu.num9_less {nb nc : Bool} (hn : nb ≠ nc) {l m k : List Nat} (hl : v9 l ≤ v9 m) (h : v9 k = v9 m - v9 l) : num9 nc k = num9 nb l + num9 nc m := by
  cases nb <;> cases nc <;> simp at hn <;> simp [num9, h] <;> omega
theorem Pu.num9_more {nb nc : Bool} (hn : nb ≠ nc) {l m k : List Nat} (hl : v9 m ≤ v9 l) (h : v9 k = v9 l - v9 m) : num9 nb k = num9 nb l + num9 nc m := by
  cases nb <;> cases nc <;> simp at hn <;> simp [num9, h] <;> omega
theorem Pu.num9_mul {nb nc : Bool} {l m k : List Nat} (h : v9 k = v9 l * v9 m) : num9 (nb != nc) k = num9 nb l * num9 nc m := by
  cases nb <;> cases nc <;> simp [num9, h, Int.mul_neg, Int.neg_mul]
theorem v9_len {a b : List Nat} (da : D9 a) (tb : T9 b) (h : v9 b ≤ v9 a) : b.length ≤ a.length := by
  refine Nat.le_of_not_lt fun hh => ?_
  have := v9_shorter da tb hh
  omega

set_option maxHeartbeats 1600000 in
set_option maxRecDepth 4000 in
theorem sum_any (nb nc : Bool) (v u : Value) (l m : List Nat) (w : World) (hN : N9 w nb v l) (hU : w.ownsRow 0 188 1 u m.length (uvs m)) (dm : D9 m) (tm : T9 m) (ll : l.length ≤ 40000) (lm : m.length ≤ 40000) :
    Calls Tryz.prog 199 #[n9 nb v, .bool nc, u] w (N9E w (num9 nb l + num9 nc m) (max l.length m.length + 1)) := by
  obtain ⟨⟨dl, tl, -⟩, hO⟩ := hN
  obtain ⟨vo, vcap, rfl, -⟩ := owns_form hO
  obtain ⟨uo, ucap, rfl, -⟩ := owns_form hU
  obtain ⟨a1, a2⟩ := alloc2_at w (.cells #[.bool nb, .slice vo l.length vcap] 141) (.cells #[.bool false, .slice none 0 0] 141)
  have hm0 : Mod (fun _ => False) w ((w.alloc (.cells #[.bool nb, .slice vo l.length vcap] 141)).alloc (.cells #[.bool false, .slice none 0 0] 141)) := ((Mod.refl _ w).alloc _).alloc _
  have HH : Hid _ := And.intro a1 (And.intro a2 hm0)
  clear a1 a2 hm0
  have HDL : Hid (D9 l ∧ T9 l ∧ D9 m ∧ T9 m) := ⟨dl, tl, dm, tm⟩
  clear dl tl dm tm
  obtain ⟨mx, hmx, hml, hmm, hm4⟩ : ∃ mx, max l.length m.length + 1 = mx ∧ l.length + 1 ≤ mx ∧ m.length + 1 ≤ mx ∧ mx ≤ 40001 := ⟨_, rfl, by omega, by omega, by omega⟩
  rw [hmx]
  have HMX : Hid (max l.length m.length + 1 = mx) := hmx
  clear hmx
  by_cases hne : nb = nc
  · have hb : (nb == nc) = true := by simp [hne]
    have HS : Hid (∀ k : List Nat, v9 k = v9 l + v9 m → num9 nc k = num9 nb l + num9 nc m) := fun k h => by subst hne; exact num9_same nb h
    generalize num9 nb l + num9 nc m = tot at *
    clear hne
    go_enter Tryz.func199, Tryz.ntmps199
    go_wp2_with fail
    generalize (w.alloc (.cells #[.bool nb, .slice vo l.length vcap] 141)).alloc (.cells #[.bool false, .slice none 0 0] 141) = W at *
    obtain ⟨hA0, hR0, hm0⟩ := HH.out
    clear HH
    refine (total_any _ _ l m 0 0 W (owns_mod hO hm0 (fun _ _ f => f)) (owns_mod hU hm0 (fun _ _ f => f)) HDL.out.1 HDL.out.2.2.1 (by omega) (by omega)).mono ?_
    rw [HMX.out]
    rintro e w2 ⟨hm2, v2, l2, rfl, hO2, hd2, ht2, hv2, hl2⟩
    have hs := signed_any nc v2 l2 _ w2 hO2 hd2 ht2 (by omega)
    have HX : Hid (num9 nc l2 = tot) := HS.out l2 hv2
    have hR2 := hm2.keep hR0 (fun f => f)
    have hm2w := hm0.trans hm2
    clear hO2 hd2 ht2 hv2 hm2
    go_wp2_with fail
    refine hs.mono ?_
    rintro e w3 ⟨hm3, nb3, v3, l3, rfl, hN3, hx3, hl3⟩
    have hR3 := hm3.keep hR2 (fun f => f)
    obtain ⟨r0, r1⟩ := c2_of hR3
    have f0 := fz3 hR3 0
    have f1 := fz3 hR3 1
    obtain ⟨vo3, vcap3, rfl, -⟩ := owns_form hN3.2
    have HE : Hid _ := n9_end (x := tot) (n := mx) hR3 (by omega) (hm2w.trans hm3) hN3.2 hN3.1 (hx3.trans HX.out) (by omega)
    clear hR3 hm3 hN3 hx3 hs hR2 hm2w
    go_wp2_with fail
    obtain ⟨k1, q0, q1⟩ := HE.out
    unfold set2at at q0 q1
    exact bodyPost_ret (by simp [results, Tryz.results199, go_sem, q0, q1]) rfl k1
  · have hb : (nb == nc) = false := by simp [hne]
    have hlt := less9_any (.slice vo l.length vcap) (.slice uo m.length ucap) l m 0 0 _ (owns_mod hO HH.out.2.2 (fun _ _ f => f)) (owns_mod hU HH.out.2.2 (fun _ _ f => f)) HDL.out.1 HDL.out.2.2.1 HDL.out.2.1 HDL.out.2.2.2 (by omega) (by omega)
    by_cases hc : v9 l < v9 m
    · have HS : Hid (∀ k : List Nat, v9 k = v9 m - v9 l → num9 nc k = num9 nb l + num9 nc m) := fun k h => num9_less hne (by omega) h
      generalize num9 nb l + num9 nc m = tot at *
      have hld : decide (v9 l < v9 m) = true := by simpa using hc
      rw [hld] at hlt
      have HLE : Hid (v9 l ≤ v9 m ∧ l.length ≤ m.length) := ⟨by omega, v9_len HDL.out.2.2.1 HDL.out.2.1 (by omega)⟩
      clear hne hc hld
      go_enter Tryz.func199, Tryz.ntmps199
      go_wp2_with fail
      generalize (w.alloc (.cells #[.bool nb, .slice vo l.length vcap] 141)).alloc (.cells #[.bool false, .slice none 0 0] 141) = W at *
      obtain ⟨hA0, hR0, hm0⟩ := HH.out
      clear HH
      refine hlt.mono ?_
      rintro e w1 ⟨rfl, hm1⟩
      have hA1 := hm1.keep hA0 (fun f => f)
      have hR1 := hm1.keep hR0 (fun f => f)
      have hm01 := hm0.trans hm1
      obtain ⟨g0, g1⟩ := c2_of hA1
      clear hA0 hR0 hm0 hA1 hlt hm1
      have hR0 := hR1
      have hm0 := hm01
      clear hR1 hm01
      go_wp2_with fail
      refine (diff_any _ _ m l 0 0 w1 (owns_mod hU hm0 (fun _ _ f => f)) (owns_mod hO hm0 (fun _ _ f => f)) HDL.out.2.2.1 HDL.out.1 HLE.out.1 HLE.out.2 (by omega)).mono ?_
      rintro e w2 ⟨hm2, v2, l2, rfl, hO2, hd2, ht2, hv2, hl2⟩
      have hs := signed_any nc v2 l2 _ w2 hO2 hd2 ht2 (by omega)
      have HX : Hid (num9 nc l2 = tot) := HS.out l2 hv2
      have hR2 := hm2.keep hR0 (fun f => f)
      have hm2w := hm0.trans hm2
      clear hO2 hd2 ht2 hv2 hm2
      go_wp2_with fail
      refine hs.mono ?_
      rintro e w3 ⟨hm3, nb3, v3, l3, rfl, hN3, hx3, hl3⟩
      have hR3 := hm3.keep hR2 (fun f => f)
      obtain ⟨r0, r1⟩ := c2_of hR3
      have f0 := fz3 hR3 0
      have f1 := fz3 hR3 1
      obtain ⟨vo3, vcap3, rfl, -⟩ := owns_form hN3.2
      have HE : Hid _ := n9_end (x := tot) (n := mx) hR3 (by omega) (hm2w.trans hm3) hN3.2 hN3.1 (hx3.trans HX.out) (by omega)
      clear hR3 hm3 hN3 hx3 hs hR2 hm2w
      go_wp2_with fail
      obtain ⟨k1, q0, q1⟩ := HE.out
      unfold set2at at q0 q1
      exact bodyPost_ret (by simp [results, Tryz.results199, go_sem, q0, q1]) rfl k1
    · have HS : Hid (∀ k : List Nat, v9 k = v9 l - v9 m → num9 nb k = num9 nb l + num9 nc m) := fun k h => num9_more hne (by omega) h
      generalize num9 nb l + num9 nc m = tot at *
      have hld : decide (v9 l < v9 m) = false := by simpa using hc
      rw [hld] at hlt
      have HLE : Hid (v9 m ≤ v9 l ∧ m.length ≤ l.length) := ⟨by omega, v9_len HDL.out.1 HDL.out.2.2.2 (by omega)⟩
      clear hne hc hld
      go_enter Tryz.func199, Tryz.ntmps199
      go_wp2_with fail
      generalize (w.alloc (.cells #[.bool nb, .slice vo l.length vcap] 141)).alloc (.cells #[.bool false, .slice none 0 0] 141) = W at *
      obtain ⟨hA0, hR0, hm0⟩ := HH.out
      clear HH
      refine hlt.mono ?_
      rintro e w1 ⟨rfl, hm1⟩
      have hA1 := hm1.keep hA0 (fun f => f)
      have hR1 := hm1.keep hR0 (fun f => f)
      have hm01 := hm0.trans hm1
      obtain ⟨g0, g1⟩ := c2_of hA1
      have hd := diff_any _ _ l m 0 0 w1.drew (owns_mod hO hm01.drew (fun _ _ f => f)) (owns_mod hU hm01.drew (fun _ _ f => f)) HDL.out.1 HDL.out.2.2.1 HLE.out.1 HLE.out.2 (by omega)
      clear hA0 hR0 hm0 hlt hm1
      go_wp2_with fail
      go_region_held3 (fun w' => w'.cell? ⟨w.heap.size, 0, none⟩ = some (.bool nb) ∧ w'.cell? ⟨w.heap.size, 1, none⟩ = some (.slice vo l.length vcap))
        (first | go_keep | (exact hkeep) | (exact hkeep2))
        (first
          | (go_at_call 206; refine hd.mono ?_; rintro e w2 ⟨hm2, v2, l2, rfl, hO2, hd2, ht2, hv2, hl2⟩; have hkeep := And.intro (hm2.cell (a := w1.drew) g0) (hm2.cell (a := w1.drew) g1))
          | (go_at_call 200; refine (signed_any nb v2 l2 _ w2 hO2 hd2 ht2 (by omega)).mono ?_; rintro e w3 ⟨hm3, nb3, v3, l3, rfl, hN3, hx3, hl3⟩; have hkeep := And.intro (hm3.cell (hm2.cell (a := w1.drew) g0)) (hm3.cell (hm2.cell (a := w1.drew) g1)); have hR3 := hm3.keep (hm2.keep (a := w1.drew) hR1 (fun f => f)) (fun f => f); obtain ⟨r0, r1⟩ := c2_of hR3; have f0 := fz3 hR3 0; have f1 := fz3 hR3 1; obtain ⟨vo3, vcap3, rfl, -⟩ := owns_form hN3.2; have hkeep2 := And.intro ((set2_cell (w.heap.size + 1) w3 (.bool nb3) (.slice vo3 l3.length vcap3) w.heap.size 0 (by omega)).trans hkeep.1) ((set2_cell (w.heap.size + 1) w3 (.bool nb3) (.slice vo3 l3.length vcap3) w.heap.size 1 (by omega)).trans hkeep.2)))
      have HE : Hid _ := n9_end (x := tot) (n := mx) hR3 (by omega) ((hm01.drew.trans hm2).trans hm3) hN3.2 hN3.1 (hx3.trans (HS.out l2 hv2)) (by omega)
      clear hR3 hm3 hN3 hx3 hR1 hm01 hm2 hO2 hd2 ht2 hv2
      go_wp2_with fail
      obtain ⟨k1, q0, q1⟩ := HE.out
      unfold set2at at q0 q1
      exact bodyPost_ret (by simp [results, Tryz.results199, go_sem, q0, q1]) rfl k1
end Go.Proofs.YtmnfndpbblpjiabGreatDoor
