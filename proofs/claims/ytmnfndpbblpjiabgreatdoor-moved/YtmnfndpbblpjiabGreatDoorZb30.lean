/- The program's value of a step. -/
import Derived.Deep.RegionWith
import Derived.Test.YtmnfndpbblpjiabGreatDoorZb29
namespace Go.Proofs.YtmnfndpbblpjiabGreatDoor
open Go.RowKit Pu

theorem st_new (w : World) (t : Stp) : (w.alloc (.cells #[.int .u8 t.op, .int .u8 t.x, .int .u8 t.y, .int .u8 t.z] 94)).heap[w.heap.size]? = some (.cells #[.int .u8 t.op, .int .u8 t.x, .int .u8 t.y, .int .u8 t.z] 94 (0, 0)) := heap_alloc_new w _

set_option maxHeartbeats 1600000 in
set_option maxRecDepth 4000 in
theorem mval_add (t : Stp) (mb : Nat) (iv : Value) (R : List Int) (bs : List UInt8) (ended : Bool) (w : World) (hM : Mc w mb iv R bs ended) (hs : Small t) (hop : t.op = 2) :
    Calls Tryz.prog 177 #[.pointer (some ⟨mb, 0, none⟩), stV t] w (N9E w (reg R t.y + reg R t.z) 1800) := by
  obtain ⟨nx, ao, an, acap, a, cy0, cy1, hU, hxa, la⟩ := hM.regs hs.2.2.1
  obtain ⟨ny, bo, bn, bcap, b, cz0, cz1, hV, hxb, lb⟩ := hM.regs hs.2.2.2
  rw [← hxa, ← hxb]
  have hlt := hM.lt
  obtain ⟨s0, s1, s2, s3⟩ := hs
  obtain ⟨a1, a2⟩ := alloc2_at w (.cells #[.int .u8 t.op, .int .u8 t.x, .int .u8 t.y, .int .u8 t.z] 94) (.cells #[.bool false, .slice none 0 0] 141)
  have hm0 : Mod (fun _ => False) w ((w.alloc (.cells #[.int .u8 t.op, .int .u8 t.x, .int .u8 t.y, .int .u8 t.z] 94)).alloc (.cells #[.bool false, .slice none 0 0] 141)) := ((Mod.refl _ w).alloc _).alloc _
  have o0 : ((t.op : Int) == 0) = false := beq_f (m := 0) (by omega)
  have o1 : ((t.op : Int) == 1) = false := beq_f (m := 1) (by omega)
  have o2 : ((t.op : Int) == 2) = true := beq_t (m := 2) (by omega)
  have o3 : ((t.op : Int) == 3) = false := beq_f (m := 3) (by omega)
  have o4 : ((t.op : Int) == 4) = false := beq_f (m := 4) (by omega)
  have iy : (t.y : Int) < 256 := by omega
  have iz : (t.z : Int) < 256 := by omega
  have hU0 := hU.mod hm0
  have hV0 := hV.mod hm0
  have d0 := hm0.cell cy0
  have d1 := hm0.cell cy1
  have d2 := hm0.cell cz0
  have d3 := hm0.cell cz1
  obtain ⟨e0, e1, e2, e3⟩ := cells4 a1
  have HH : Hid _ := And.intro hU0 (And.intro hV0 (And.intro a2 hm0))
  have HC : Hid _ := And.intro d0 (And.intro d1 (And.intro d2 (And.intro d3 (And.intro e2 e3))))
  clear hU hV cy0 cy1 cz0 cz1 hM a1 a2 hm0 hU0 hV0 d0 d1 d2 d3 e0 e1 e2 e3 hop hxa hxb
  go_enter Tryz.func177, Tryz.ntmps177
  go_wp2_with fail
  generalize (w.alloc (.cells #[.int .u8 t.op, .int .u8 t.x, .int .u8 t.y, .int .u8 t.z] 94)).alloc (.cells #[.bool false, .slice none 0 0] 141) = W at *
  obtain ⟨hU0, hV0, hR0, hm0⟩ := HH.out
  obtain ⟨d0, d1, d2, d3, e2, e3⟩ := HC.out
  have hcall := add9_any nx ny (.slice ao an acap) (.slice bo bn bcap) a b W.drew (hU0.mod (Mod.refl _ W).drew) (hV0.mod (Mod.refl _ W).drew) (by omega) (by omega)
  generalize num9 nx a + num9 ny b = tot at *
  clear HH HC hU0 hV0
  go_region_held3 (fun w' => w'.cell? ⟨mb, 1 + t.y * 2, none⟩ = some (.bool nx) ∧ w'.cell? ⟨mb, 1 + t.y * 2 + 1, none⟩ = some (.slice ao an acap) ∧ w'.cell? ⟨mb, 1 + t.z * 2, none⟩ = some (.bool ny) ∧ w'.cell? ⟨mb, 1 + t.z * 2 + 1, none⟩ = some (.slice bo bn bcap) ∧ w'.cell? ⟨w.heap.size, 2, none⟩ = some (.int .u8 t.y) ∧ w'.cell? ⟨w.heap.size, 3, none⟩ = some (.int .u8 t.z))
    (first | go_keep | (exact hkeep) | (exact hkeep2))
    ((go_at_call 193; refine hcall.mono ?_; rintro e w3 ⟨hm3, nb3, v3, l3, rfl, hN3, hx3, hl3⟩; have hkeep := And.intro (hm3.cell (a := W.drew) d0) (And.intro (hm3.cell (a := W.drew) d1) (And.intro (hm3.cell (a := W.drew) d2) (And.intro (hm3.cell (a := W.drew) d3) (And.intro (hm3.cell (a := W.drew) e2) (hm3.cell (a := W.drew) e3))))); have hR3 := hm3.keep (a := W.drew) hR0 (fun f => f); obtain ⟨r0, r1⟩ := c2_of hR3; have f0 := fz3 hR3 0; have f1 := fz3 hR3 1; obtain ⟨vo3, vcap3, rfl, -⟩ := owns_form hN3.2; have hkeep2 := And.intro ((set2_cell (w.heap.size + 1) w3 (.bool nb3) (.slice vo3 l3.length vcap3) mb (1 + t.y * 2) (by omega)).trans hkeep.1) (And.intro ((set2_cell (w.heap.size + 1) w3 (.bool nb3) (.slice vo3 l3.length vcap3) mb (1 + t.y * 2 + 1) (by omega)).trans hkeep.2.1) (And.intro ((set2_cell (w.heap.size + 1) w3 (.bool nb3) (.slice vo3 l3.length vcap3) mb (1 + t.z * 2) (by omega)).trans hkeep.2.2.1) (And.intro ((set2_cell (w.heap.size + 1) w3 (.bool nb3) (.slice vo3 l3.length vcap3) mb (1 + t.z * 2 + 1) (by omega)).trans hkeep.2.2.2.1) (And.intro ((set2_cell (w.heap.size + 1) w3 (.bool nb3) (.slice vo3 l3.length vcap3) w.heap.size 2 (by omega)).trans hkeep.2.2.2.2.1) ((set2_cell (w.heap.size + 1) w3 (.bool nb3) (.slice vo3 l3.length vcap3) w.heap.size 3 (by omega)).trans hkeep.2.2.2.2.2)))))))
  have HE : Hid _ := n9_end (x := tot) (n := 1800) hR3 (by omega) (hm0.drew.trans hm3) hN3.2 hN3.1 hx3 (by have : max a.length b.length ≤ 889 := Nat.max_le.2 ⟨la, lb⟩; omega)
  clear hR3 hm3 hN3 hx3 hR0 hm0
  go_wp2_with fail
  obtain ⟨k1, q0, q1⟩ := HE.out
  unfold set2at at q0 q1
  exact bodyPost_ret (by simp [results, Tryz.results177, go_sem, q0, q1]) rfl k1

set_option maxHeartbeats 1600000 in
set_option maxRecDepth 4000 in
theorem mval_sub (t : Stp) (mb : Nat) (iv : Value) (R : List Int) (bs : List UInt8) (ended : Bool) (w : World) (hM : Mc w mb iv R bs ended) (hs : Small t) (hop : t.op = 3) :
    Calls Tryz.prog 177 #[.pointer (some ⟨mb, 0, none⟩), stV t] w (N9E w (reg R t.y - reg R t.z) 1800) := by
  obtain ⟨nx, ao, an, acap, a, cy0, cy1, hU, hxa, la⟩ := hM.regs hs.2.2.1
  obtain ⟨ny, bo, bn, bcap, b, cz0, cz1, hV, hxb, lb⟩ := hM.regs hs.2.2.2
  rw [← hxa, ← hxb]
  have hlt := hM.lt
  obtain ⟨s0, s1, s2, s3⟩ := hs
  obtain ⟨a1, a2⟩ := alloc2_at w (.cells #[.int .u8 t.op, .int .u8 t.x, .int .u8 t.y, .int .u8 t.z] 94) (.cells #[.bool false, .slice none 0 0] 141)
  have hm0 : Mod (fun _ => False) w ((w.alloc (.cells #[.int .u8 t.op, .int .u8 t.x, .int .u8 t.y, .int .u8 t.z] 94)).alloc (.cells #[.bool false, .slice none 0 0] 141)) := ((Mod.refl _ w).alloc _).alloc _
  have o0 : ((t.op : Int) == 0) = false := beq_f (m := 0) (by omega)
  have o1 : ((t.op : Int) == 1) = false := beq_f (m := 1) (by omega)
  have o2 : ((t.op : Int) == 2) = false := beq_f (m := 2) (by omega)
  have o3 : ((t.op : Int) == 3) = true := beq_t (m := 3) (by omega)
  have o4 : ((t.op : Int) == 4) = false := beq_f (m := 4) (by omega)
  have iy : (t.y : Int) < 256 := by omega
  have iz : (t.z : Int) < 256 := by omega
  have hU0 := hU.mod hm0
  have hV0 := hV.mod hm0
  have d0 := hm0.cell cy0
  have d1 := hm0.cell cy1
  have d2 := hm0.cell cz0
  have d3 := hm0.cell cz1
  obtain ⟨e0, e1, e2, e3⟩ := cells4 a1
  have HH : Hid _ := And.intro hU0 (And.intro hV0 (And.intro a2 hm0))
  have HC : Hid _ := And.intro d0 (And.intro d1 (And.intro d2 (And.intro d3 (And.intro e2 e3))))
  clear hU hV cy0 cy1 cz0 cz1 hM a1 a2 hm0 hU0 hV0 d0 d1 d2 d3 e0 e1 e2 e3 hop hxa hxb
  go_enter Tryz.func177, Tryz.ntmps177
  go_wp2_with fail
  generalize (w.alloc (.cells #[.int .u8 t.op, .int .u8 t.x, .int .u8 t.y, .int .u8 t.z] 94)).alloc (.cells #[.bool false, .slice none 0 0] 141) = W at *
  obtain ⟨hU0, hV0, hR0, hm0⟩ := HH.out
  obtain ⟨d0, d1, d2, d3, e2, e3⟩ := HC.out
  have hcall := sub9_any nx ny (.slice ao an acap) (.slice bo bn bcap) a b W.drew (hU0.mod (Mod.refl _ W).drew) (hV0.mod (Mod.refl _ W).drew) (by omega) (by omega)
  generalize num9 nx a - num9 ny b = tot at *
  clear HH HC hU0 hV0
  go_region_held3 (fun w' => w'.cell? ⟨mb, 1 + t.y * 2, none⟩ = some (.bool nx) ∧ w'.cell? ⟨mb, 1 + t.y * 2 + 1, none⟩ = some (.slice ao an acap) ∧ w'.cell? ⟨mb, 1 + t.z * 2, none⟩ = some (.bool ny) ∧ w'.cell? ⟨mb, 1 + t.z * 2 + 1, none⟩ = some (.slice bo bn bcap) ∧ w'.cell? ⟨w.heap.size, 2, none⟩ = some (.int .u8 t.y) ∧ w'.cell? ⟨w.heap.size, 3, none⟩ = some (.int .u8 t.z))
    (first | go_keep | (exact hkeep) | (exact hkeep2))
    ((go_at_call 194; refine hcall.mono ?_; rintro e w3 ⟨hm3, nb3, v3, l3, rfl, hN3, hx3, hl3⟩; have hkeep := And.intro (hm3.cell (a := W.drew) d0) (And.intro (hm3.cell (a := W.drew) d1) (And.intro (hm3.cell (a := W.drew) d2) (And.intro (hm3.cell (a := W.drew) d3) (And.intro (hm3.cell (a := W.drew) e2) (hm3.cell (a := W.drew) e3))))); have hR3 := hm3.keep (a := W.drew) hR0 (fun f => f); obtain ⟨r0, r1⟩ := c2_of hR3; have f0 := fz3 hR3 0; have f1 := fz3 hR3 1; obtain ⟨vo3, vcap3, rfl, -⟩ := owns_form hN3.2; have hkeep2 := And.intro ((set2_cell (w.heap.size + 1) w3 (.bool nb3) (.slice vo3 l3.length vcap3) mb (1 + t.y * 2) (by omega)).trans hkeep.1) (And.intro ((set2_cell (w.heap.size + 1) w3 (.bool nb3) (.slice vo3 l3.length vcap3) mb (1 + t.y * 2 + 1) (by omega)).trans hkeep.2.1) (And.intro ((set2_cell (w.heap.size + 1) w3 (.bool nb3) (.slice vo3 l3.length vcap3) mb (1 + t.z * 2) (by omega)).trans hkeep.2.2.1) (And.intro ((set2_cell (w.heap.size + 1) w3 (.bool nb3) (.slice vo3 l3.length vcap3) mb (1 + t.z * 2 + 1) (by omega)).trans hkeep.2.2.2.1) (And.intro ((set2_cell (w.heap.size + 1) w3 (.bool nb3) (.slice vo3 l3.length vcap3) w.heap.size 2 (by omega)).trans hkeep.2.2.2.2.1) ((set2_cell (w.heap.size + 1) w3 (.bool nb3) (.slice vo3 l3.length vcap3) w.heap.size 3 (by omega)).trans hkeep.2.2.2.2.2)))))))
  have HE : Hid _ := n9_end (x := tot) (n := 1800) hR3 (by omega) (hm0.drew.trans hm3) hN3.2 hN3.1 hx3 (by have : max a.length b.length ≤ 889 := Nat.max_le.2 ⟨la, lb⟩; omega)
  clear hR3 hm3 hN3 hx3 hR0 hm0
  go_wp2_with fail
  obtain ⟨k1, q0, q1⟩ := HE.out
  unfold set2at at q0 q1
  exact bodyPost_ret (by simp [results, Tryz.results177, go_sem, q0, q1]) rfl k1

set_option maxHeartbeats 1600000 in
set_option maxRecDepth 4000 in
theorem mval_mul (t : Stp) (mb : Nat) (iv : Value) (R : List Int) (bs : List UInt8) (ended : Bool) (w : World) (hM : Mc w mb iv R bs ended) (hs : Small t) (hop : t.op = 4) :
    Calls Tryz.prog 177 #[.pointer (some ⟨mb, 0, none⟩), stV t] w (N9E w (reg R t.y * reg R t.z) 1800) := by
  obtain ⟨nx, ao, an, acap, a, cy0, cy1, hU, hxa, la⟩ := hM.regs hs.2.2.1
  obtain ⟨ny, bo, bn, bcap, b, cz0, cz1, hV, hxb, lb⟩ := hM.regs hs.2.2.2
  rw [← hxa, ← hxb]
  have hlt := hM.lt
  obtain ⟨s0, s1, s2, s3⟩ := hs
  obtain ⟨a1, a2⟩ := alloc2_at w (.cells #[.int .u8 t.op, .int .u8 t.x, .int .u8 t.y, .int .u8 t.z] 94) (.cells #[.bool false, .slice none 0 0] 141)
  have hm0 : Mod (fun _ => False) w ((w.alloc (.cells #[.int .u8 t.op, .int .u8 t.x, .int .u8 t.y, .int .u8 t.z] 94)).alloc (.cells #[.bool false, .slice none 0 0] 141)) := ((Mod.refl _ w).alloc _).alloc _
  have o0 : ((t.op : Int) == 0) = false := beq_f (m := 0) (by omega)
  have o1 : ((t.op : Int) == 1) = false := beq_f (m := 1) (by omega)
  have o2 : ((t.op : Int) == 2) = false := beq_f (m := 2) (by omega)
  have o3 : ((t.op : Int) == 3) = false := beq_f (m := 3) (by omega)
  have o4 : ((t.op : Int) == 4) = true := beq_t (m := 4) (by omega)
  have iy : (t.y : Int) < 256 := by omega
  have iz : (t.z : Int) < 256 := by omega
  have hU0 := hU.mod hm0
  have hV0 := hV.mod hm0
  have d0 := hm0.cell cy0
  have d1 := hm0.cell cy1
  have d2 := hm0.cell cz0
  have d3 := hm0.cell cz1
  obtain ⟨e0, e1, e2, e3⟩ := cells4 a1
  have HH : Hid _ := And.intro hU0 (And.intro hV0 (And.intro a2 hm0))
  have HC : Hid _ := And.intro d0 (And.intro d1 (And.intro d2 (And.intro d3 (And.intro e2 e3))))
  clear hU hV cy0 cy1 cz0 cz1 hM a1 a2 hm0 hU0 hV0 d0 d1 d2 d3 e0 e1 e2 e3 hop hxa hxb
  go_enter Tryz.func177, Tryz.ntmps177
  go_wp2_with fail
  generalize (w.alloc (.cells #[.int .u8 t.op, .int .u8 t.x, .int .u8 t.y, .int .u8 t.z] 94)).alloc (.cells #[.bool false, .slice none 0 0] 141) = W at *
  obtain ⟨hU0, hV0, hR0, hm0⟩ := HH.out
  obtain ⟨d0, d1, d2, d3, e2, e3⟩ := HC.out
  have hcall := mul9_any nx ny (.slice ao an acap) (.slice bo bn bcap) a b W.drew (hU0.mod (Mod.refl _ W).drew) (hV0.mod (Mod.refl _ W).drew) (by omega) (by omega)
  generalize num9 nx a * num9 ny b = tot at *
  clear HH HC hU0 hV0
  go_region_held3 (fun w' => w'.cell? ⟨mb, 1 + t.y * 2, none⟩ = some (.bool nx) ∧ w'.cell? ⟨mb, 1 + t.y * 2 + 1, none⟩ = some (.slice ao an acap) ∧ w'.cell? ⟨mb, 1 + t.z * 2, none⟩ = some (.bool ny) ∧ w'.cell? ⟨mb, 1 + t.z * 2 + 1, none⟩ = some (.slice bo bn bcap) ∧ w'.cell? ⟨w.heap.size, 2, none⟩ = some (.int .u8 t.y) ∧ w'.cell? ⟨w.heap.size, 3, none⟩ = some (.int .u8 t.z))
    (first | go_keep | (exact hkeep) | (exact hkeep2))
    ((go_at_call 195; refine hcall.mono ?_; rintro e w3 ⟨hm3, nb3, v3, l3, rfl, hN3, hx3, hl3⟩; have hkeep := And.intro (hm3.cell (a := W.drew) d0) (And.intro (hm3.cell (a := W.drew) d1) (And.intro (hm3.cell (a := W.drew) d2) (And.intro (hm3.cell (a := W.drew) d3) (And.intro (hm3.cell (a := W.drew) e2) (hm3.cell (a := W.drew) e3))))); have hR3 := hm3.keep (a := W.drew) hR0 (fun f => f); obtain ⟨r0, r1⟩ := c2_of hR3; have f0 := fz3 hR3 0; have f1 := fz3 hR3 1; obtain ⟨vo3, vcap3, rfl, -⟩ := owns_form hN3.2; have hkeep2 := And.intro ((set2_cell (w.heap.size + 1) w3 (.bool nb3) (.slice vo3 l3.length vcap3) mb (1 + t.y * 2) (by omega)).trans hkeep.1) (And.intro ((set2_cell (w.heap.size + 1) w3 (.bool nb3) (.slice vo3 l3.length vcap3) mb (1 + t.y * 2 + 1) (by omega)).trans hkeep.2.1) (And.intro ((set2_cell (w.heap.size + 1) w3 (.bool nb3) (.slice vo3 l3.length vcap3) mb (1 + t.z * 2) (by omega)).trans hkeep.2.2.1) (And.intro ((set2_cell (w.heap.size + 1) w3 (.bool nb3) (.slice vo3 l3.length vcap3) mb (1 + t.z * 2 + 1) (by omega)).trans hkeep.2.2.2.1) (And.intro ((set2_cell (w.heap.size + 1) w3 (.bool nb3) (.slice vo3 l3.length vcap3) w.heap.size 2 (by omega)).trans hkeep.2.2.2.2.1) ((set2_cell (w.heap.size + 1) w3 (.bool nb3) (.slice vo3 l3.length vcap3) w.heap.size 3 (by omega)).trans hkeep.2.2.2.2.2)))))))
  have HE : Hid _ := n9_end (x := tot) (n := 1800) hR3 (by omega) (hm0.drew.trans hm3) hN3.2 hN3.1 hx3 (by omega)
  clear hR3 hm3 hN3 hx3 hR0 hm0
  go_wp2_with fail
  obtain ⟨k1, q0, q1⟩ := HE.out
  unfold set2at at q0 q1
  exact bodyPost_ret (by simp [results, Tryz.results177, go_sem, q0, q1]) rfl k1
end Go.Proofs.YtmnfndpbblpjiabGreatDoor

/- The program's value of a step: an input, a constant, a sign; of any step. -/
namespace Go.Proofs.YtmnfndpbblpjiabGreatDoor
open Go.RowKit Pu

set_option maxHeartbeats 800000 in
set_option maxRecDepth 4000 in
theorem mval_con (t : Stp) (mb : Nat) (iv : Value) (R : List Int) (bs : List UInt8) (ended : Bool) (w : World) (hM : Mc w mb iv R bs ended) (hs : Small t) (hop : t.op = 1) :
    Calls Tryz.prog 177 #[.pointer (some ⟨mb, 0, none⟩), stV t] w (N9E w (t.y : Int) 1800) := by
  have hlt := hM.lt
  obtain ⟨a1, a2⟩ := alloc2_at w (.cells #[.int .u8 t.op, .int .u8 t.x, .int .u8 t.y, .int .u8 t.z] 94) (.cells #[.bool false, .slice none 0 0] 141)
  have hm0 : Mod (fun _ => False) w ((w.alloc (.cells #[.int .u8 t.op, .int .u8 t.x, .int .u8 t.y, .int .u8 t.z] 94)).alloc (.cells #[.bool false, .slice none 0 0] 141)) := ((Mod.refl _ w).alloc _).alloc _
  have o0 : ((t.op : Int) == 0) = false := beq_f (m := 0) (by omega)
  have o1 : ((t.op : Int) == 1) = true := beq_t (m := 1) (by omega)
  have o2 : ((t.op : Int) == 2) = false := beq_f (m := 2) (by omega)
  have o3 : ((t.op : Int) == 3) = false := beq_f (m := 3) (by omega)
  have o4 : ((t.op : Int) == 4) = false := beq_f (m := 4) (by omega)
  have iy : (t.y : Int) < 256 := by have := hs.2.2.1; omega
  have w1 : IntKind.i64.wrap (t.y : Int) = (t.y : Int) := by have := hs.2.2.1; simp [IntKind.wrap, IntKind.signed, IntKind.bits]; omega
  obtain ⟨e0, e1, e2, e3⟩ := cells4 a1
  have HH : Hid _ := And.intro a2 hm0
  clear hM a1 a2 hm0 e0 e1 e2 e3 hop
  go_enter Tryz.func177, Tryz.ntmps177
  go_wp2_with fail
  generalize (w.alloc (.cells #[.int .u8 t.op, .int .u8 t.x, .int .u8 t.y, .int .u8 t.z] 94)).alloc (.cells #[.bool false, .slice none 0 0] 141) = W at *
  obtain ⟨hR0, hm0⟩ := HH.out
  clear HH
  refine (fromint_any (t.y : Int) W (by omega) (by omega)).mono ?_
  rintro e w3 ⟨hm3, nb3, v3, l3, rfl, hN3, hx3, hl3⟩
  have hR3 := hm3.keep hR0 (fun f => f)
  obtain ⟨r0, r1⟩ := c2_of hR3
  have f0 := fz3 hR3 0
  have f1 := fz3 hR3 1
  obtain ⟨vo3, vcap3, rfl, -⟩ := owns_form hN3.2
  have HE : Hid _ := n9_end (x := (t.y : Int)) (n := 1800) hR3 (by omega) (hm0.trans hm3) hN3.2 hN3.1 hx3 (by omega)
  clear hR3 hm3 hN3 hx3 hR0 hm0
  go_wp2_with fail
  obtain ⟨k1, q0, q1⟩ := HE.out
  unfold set2at at q0 q1
  exact bodyPost_ret (by simp [results, Tryz.results177, go_sem, q0, q1]) rfl k1

set_option maxHeartbeats 800000 in
set_option maxRecDepth 4000 in
theorem mval_in (t : Stp) (mb gi n icap : Nat) (x : Int) (R : List Int) (bs : List UInt8) (ended : Bool) (w : World) (hM : Mc w mb (.slice (some ⟨gi, 0, none⟩) n icap) R bs ended) (hs : Small t) (hop : t.op = 0) (hy : t.y < n) (hn : n ≤ 1000) (cx : w.cell? ⟨gi, t.y, none⟩ = some (.int .i64 x)) (h1 : -100 < x) (h2 : x < 100) :
    Calls Tryz.prog 177 #[.pointer (some ⟨mb, 0, none⟩), stV t] w (N9E w x 1800) := by
  have hlt := hM.lt
  obtain ⟨a1, a2⟩ := alloc2_at w (.cells #[.int .u8 t.op, .int .u8 t.x, .int .u8 t.y, .int .u8 t.z] 94) (.cells #[.bool false, .slice none 0 0] 141)
  have hm0 : Mod (fun _ => False) w ((w.alloc (.cells #[.int .u8 t.op, .int .u8 t.x, .int .u8 t.y, .int .u8 t.z] 94)).alloc (.cells #[.bool false, .slice none 0 0] 141)) := ((Mod.refl _ w).alloc _).alloc _
  have o0 : ((t.op : Int) == 0) = true := beq_t (m := 0) (by omega)
  have o1 : ((t.op : Int) == 1) = false := beq_f (m := 1) (by omega)
  have o2 : ((t.op : Int) == 2) = false := beq_f (m := 2) (by omega)
  have o3 : ((t.op : Int) == 3) = false := beq_f (m := 3) (by omega)
  have o4 : ((t.op : Int) == 4) = false := beq_f (m := 4) (by omega)
  have iy : (t.y : Int) < 256 := by have := hs.2.2.1; omega
  obtain ⟨e0, e1, e2, e3⟩ := cells4 a1
  have hin := minput_any mb t.y gi n icap x R bs ended _ (hM.mod hm0) hy hs.2.2.1 hn (hm0.cell cx) h1 h2
  have HH : Hid _ := And.intro a2 hm0
  clear hM a1 a2 hm0 e0 e1 e2 e3 hop cx
  go_enter Tryz.func177, Tryz.ntmps177
  go_wp2_with fail
  generalize (w.alloc (.cells #[.int .u8 t.op, .int .u8 t.x, .int .u8 t.y, .int .u8 t.z] 94)).alloc (.cells #[.bool false, .slice none 0 0] 141) = W at *
  obtain ⟨hR0, hm0⟩ := HH.out
  clear HH
  refine hin.mono ?_
  rintro e w3 ⟨hm3, nb3, v3, l3, rfl, hN3, hx3, hl3⟩
  have hR3 := hm3.keep hR0 (fun f => f)
  obtain ⟨r0, r1⟩ := c2_of hR3
  have f0 := fz3 hR3 0
  have f1 := fz3 hR3 1
  obtain ⟨vo3, vcap3, rfl, -⟩ := owns_form hN3.2
  have HE : Hid _ := n9_end (x := x) (n := 1800) hR3 (by omega) (hm0.trans hm3) hN3.2 hN3.1 hx3 (by omega)
  clear hR3 hm3 hN3 hx3 hR0 hm0
  go_wp2_with fail
  obtain ⟨k1, q0, q1⟩ := HE.out
  unfold set2at at q0 q1
  exact bodyPost_ret (by simp [results, Tryz.results177, go_sem, q0, q1]) rfl k1

set_option maxHeartbeats 1600000 in
set_option maxRecDepth 4000 in
theorem mval_sgn (t : Stp) (mb : Nat) (iv : Value) (R : List Int) (bs : List UInt8) (ended : Bool) (w : World) (hM : Mc w mb iv R bs ended) (hs : Small t) (hop : t.op = 5) :
    Calls Tryz.prog 177 #[.pointer (some ⟨mb, 0, none⟩), stV t] w (N9E w (sgn (reg R t.y)) 1800) := by
  obtain ⟨nx, ao, an, acap, a, cy0, cy1, hU, hxa, la⟩ := hM.regs hs.2.2.1
  rw [← hxa]
  have hlt := hM.lt
  obtain ⟨a1, a2⟩ := alloc2_at w (.cells #[.int .u8 t.op, .int .u8 t.x, .int .u8 t.y, .int .u8 t.z] 94) (.cells #[.bool false, .slice none 0 0] 141)
  have hm0 : Mod (fun _ => False) w ((w.alloc (.cells #[.int .u8 t.op, .int .u8 t.x, .int .u8 t.y, .int .u8 t.z] 94)).alloc (.cells #[.bool false, .slice none 0 0] 141)) := ((Mod.refl _ w).alloc _).alloc _
  have o0 : ((t.op : Int) == 0) = false := beq_f (m := 0) (by omega)
  have o1 : ((t.op : Int) == 1) = false := beq_f (m := 1) (by omega)
  have o2 : ((t.op : Int) == 2) = false := beq_f (m := 2) (by omega)
  have o3 : ((t.op : Int) == 3) = false := beq_f (m := 3) (by omega)
  have o4 : ((t.op : Int) == 4) = false := beq_f (m := 4) (by omega)
  have iy : (t.y : Int) < 256 := by have := hs.2.2.1; omega
  have hU0 := hU.mod hm0
  have d0 := hm0.cell cy0
  have d1 := hm0.cell cy1
  obtain ⟨e0, e1, e2, e3⟩ := cells4 a1
  have HH : Hid _ := And.intro hU0 (And.intro a2 (And.intro hm0 (And.intro d0 (And.intro d1 e2))))
  clear hU cy0 cy1 hM a1 a2 hm0 hU0 d0 d1 e0 e1 e2 e3 hop hxa
  go_enter Tryz.func177, Tryz.ntmps177
  go_wp2_with fail
  generalize (w.alloc (.cells #[.int .u8 t.op, .int .u8 t.x, .int .u8 t.y, .int .u8 t.z] 94)).alloc (.cells #[.bool false, .slice none 0 0] 141) = W at *
  obtain ⟨hU0, hR0, hm0, d0, d1, e2⟩ := HH.out
  clear HH
  have hcall := sign9_any nx (.slice ao an acap) a W.drew (hU0.mod (Mod.refl _ W).drew) (by omega)
  have hsg : -1 ≤ sgn (num9 nx a) ∧ sgn (num9 nx a) ≤ 1 := by unfold sgn; split; omega; split; omega; omega
  generalize sgn (num9 nx a) = tot at *
  clear hU0
  go_region_held3 (fun w' => w'.cell? ⟨mb, 1 + t.y * 2, none⟩ = some (.bool nx) ∧ w'.cell? ⟨mb, 1 + t.y * 2 + 1, none⟩ = some (.slice ao an acap) ∧ w'.cell? ⟨w.heap.size, 2, none⟩ = some (.int .u8 t.y))
    (first | go_keep | (exact hkeep))
    ((go_at_call 139; refine hcall.mono ?_; rintro e w2 ⟨rfl, hm2⟩; have hkeep := And.intro (hm2.cell (a := W.drew) d0) (And.intro (hm2.cell (a := W.drew) d1) (hm2.cell (a := W.drew) e2))))
  have hR2 := hm2.keep (a := W.drew) hR0 (fun f => f)
  have hm02 := hm0.drew.trans hm2
  clear hR0 hm0 d0 d1 e2 hkeep hm2
  have hR0 := hR2
  have hm0 := hm02
  clear hR2 hm02
  go_wp2_with fail
  refine (fromint_any tot w2 (by omega) (by omega)).mono ?_
  rintro e w3 ⟨hm3, nb3, v3, l3, rfl, hN3, hx3, hl3⟩
  have hR3 := hm3.keep hR0 (fun f => f)
  obtain ⟨r0, r1⟩ := c2_of hR3
  have f0 := fz3 hR3 0
  have f1 := fz3 hR3 1
  obtain ⟨vo3, vcap3, rfl, -⟩ := owns_form hN3.2
  have HE : Hid _ := n9_end (x := tot) (n := 1800) hR3 (by omega) (hm0.trans hm3) hN3.2 hN3.1 hx3 (by omega)
  clear hR3 hm3 hN3 hx3 hR0 hm0
  go_wp2_with fail
  obtain ⟨k1, q0, q1⟩ := HE.out
  unfold set2at at q0 q1
  exact bodyPost_ret (by simp [results, Tryz.results177, go_sem, q0, q1]) rfl k1

/-- The number to which a step sets its register. -/
theorem mval_any (t : Stp) (mb : Nat) (iv : Value) (R ins : List Int) (base : Nat) (bs : List UInt8) (ended : Bool) (w : World) (hM : Mc w mb iv R bs ended) (hg : Good ins.length t) (hop : t.op < 6) (hI : w.ownsRow base 3 1 iv ins.length (zvs ins)) (hn : ins.length ≤ 1000) (hi : ∀ x ∈ ins, -100 < x ∧ x < 100) :
    Calls Tryz.prog 177 #[.pointer (some ⟨mb, 0, none⟩), stV t] w (N9E w (Pu.valOf t R ins) 1800) := by
  obtain ⟨hs, -, -, -, -, h0, -⟩ := hg
  have hc : t.op = 0 ∨ t.op = 1 ∨ t.op = 2 ∨ t.op = 3 ∨ t.op = 4 ∨ t.op = 5 := by omega
  rcases hc with e | e | e | e | e | e
  · have hyl : t.y < ins.length := h0 e
    obtain ⟨io, icap, rfl, -⟩ := owns_form hI
    obtain ⟨gi, rfl, ci⟩ := zvs_cell hI rfl hyl
    obtain ⟨b1, b2⟩ := hi _ (List.getElem_mem hyl)
    rw [show Pu.valOf t R ins = ins[t.y] by simp [Pu.valOf, e, hyl]]
    exact mval_in t mb gi ins.length icap ins[t.y] R bs ended w hM hs e hyl hn ci b1 b2
  · rw [show Pu.valOf t R ins = (t.y : Int) by simp [Pu.valOf, e]]
    exact mval_con t mb iv R bs ended w hM hs e
  · rw [show Pu.valOf t R ins = reg R t.y + reg R t.z by simp [Pu.valOf, e]]
    exact mval_add t mb iv R bs ended w hM hs e
  · rw [show Pu.valOf t R ins = reg R t.y - reg R t.z by simp [Pu.valOf, e]]
    exact mval_sub t mb iv R bs ended w hM hs e
  · rw [show Pu.valOf t R ins = reg R t.y * reg R t.z by simp [Pu.valOf, e]]
    exact mval_mul t mb iv R bs ended w hM hs e
  · rw [show Pu.valOf t R ins = sgn (reg R t.y) by simp [Pu.valOf, e]]
    exact mval_sgn t mb iv R bs ended w hM hs e
end Go.Proofs.YtmnfndpbblpjiabGreatDoor

/- The program's machine sets a register. -/
namespace Go.Proofs.YtmnfndpbblpjiabGreatDoor
open Go.RowKit Pu

theorem Pu.short9 {l : List Nat} {B nn : Nat} (hB : B = 10 ^ nn) (hn : nn = 8000) (ht : T9 l) (hv : ¬ B ≤ v9 l) : l.length ≤ 889 := by
  by_cases h0 : l = []
  · subst h0; simp
  · have h1 := v9_top ht h0
    rw [pow9] at h1
    have h3 : 10 ^ (9 * (l.length - 1)) < 10 ^ nn := by rw [← hB]; omega
    have := (Nat.pow_lt_pow_iff_right (by omega : 1 < 10)).1 h3
    omega
theorem Pu.natAbs9 (nb : Bool) (l : List Nat) : (num9 nb l).natAbs = v9 l := by cases nb <;> simp [num9]
theorem Mc.set {w : World} {mb : Nat} {iv : Value} {R : List Int} {bs : List UInt8} {ended : Bool} {nb : Bool} {v : Value} {l : List Nat} (h : Mc w mb iv R bs ended) {x : Nat} (hx : x < 128) (hR : R.length = 128) (hN : N9 w nb v l) (hl : l.length ≤ 889) : Mc (set2at w mb (1 + x * 2) (.bool nb) v) mb iv (R.set x (num9 nb l)) bs ended := by
  obtain ⟨C, h1, h2, h3, h4, ⟨rv, h5, h6⟩, h7⟩ := h
  have hm := set2at_own w mb (1 + x * 2) (.bool nb) v
  have hcell : ∀ i, ((C.setIfInBounds (1 + x * 2) (.bool nb)).setIfInBounds (1 + x * 2 + 1) v)[i]? = if i = 1 + x * 2 + 1 ∧ i < C.size then some v else if i = 1 + x * 2 ∧ i < C.size then some (.bool nb) else C[i]? := fun i => by
    have e1 := set2at_cell (x := .bool nb) (y := v) (o := 1 + x * 2) h1 i
    rw [Mc.cell (set2at_block h1), Mc.cell h1] at e1
    exact e1
  refine ⟨_, set2at_block h1, by simpa using h2, ?_, ?_, ⟨rv, ?_, owns_mod h6 hm (fun g a b => by omega)⟩, fun r hr => ?_⟩
  · rw [hcell, if_neg (by omega), if_neg (by omega)]; exact h3
  · rw [hcell, if_neg (by omega), if_neg (by omega)]; exact h4
  · rw [hcell, if_neg (by omega), if_neg (by omega)]; exact h5
  · by_cases e : r = x
    · subst e
      refine ⟨nb, v, l, by rw [hcell, if_neg (by omega), if_pos (by omega)], by rw [hcell, if_pos (by omega)], ⟨hN.1, own_apart hN.2 hm h1 (by decide)⟩, ?_, hl⟩
      simp [reg, hR, hx]
    · obtain ⟨nx, u, a, c0, c1, hN', hx', hl'⟩ := h7 r hr
      refine ⟨nx, u, a, by rw [hcell, if_neg (by omega), if_neg (by omega)]; exact c0, by rw [hcell, if_neg (by omega), if_neg (by omega)]; exact c1, ⟨hN'.1, own_apart hN'.2 hm h1 (by decide)⟩, ?_, hl'⟩
      rw [hx']
      simp [reg, show ¬ x = r from fun hh => e hh.symm]

/-- What comes of setting a register. -/
def SetEnd (w : World) (B mb : Nat) (iv : Value) (R : List Int) (bs : List UInt8) (x : Nat) (val : Int) (e : Ending) (w' : World) : Prop :=
  Mod (fun q => q = mb) w w' ∧ ((B ≤ val.natAbs ∧ e = .returned (.bool false)) ∨ (¬ B ≤ val.natAbs ∧ e = .returned (.bool true) ∧ Mc w' mb iv (R.set x val) bs false))

set_option maxHeartbeats 1600000 in
set_option maxRecDepth 4000 in
theorem mset_any (B nn : Nat) (hB : B = 10 ^ nn) (hnn : nn = 8000) (t : Stp) (mb : Nat) (iv : Value) (R ins : List Int) (base : Nat) (bs : List UInt8) (w : World) (hM : Mc w mb iv R bs false) (hR : R.length = 128) (hg : Good ins.length t) (hop : t.op < 6) (hI : w.ownsRow base 3 1 iv ins.length (zvs ins)) (hn : ins.length ≤ 1000) (hi : ∀ x ∈ ins, -100 < x ∧ x < 100) :
    Calls Tryz.prog 142 #[.pointer (some ⟨mb, 0, none⟩), stV t] w (SetEnd w B mb iv R bs t.x (Pu.valOf t R ins)) := by
  have hmA : Mod (fun _ => False) w (w.alloc (.cells #[.int .u8 t.op, .int .u8 t.x, .int .u8 t.y, .int .u8 t.z] 94)) := (Mod.refl _ w).alloc _
  have hv := mval_any t mb iv R ins base bs false _ (hM.mod hmA) hg hop (owns_mod hI hmA (fun _ _ f => f)) hn hi
  have hSt := st_new w t
  obtain ⟨⟨s0, s1, s2, s3⟩, -, hx, -⟩ := hg
  have HSH : Hid (∀ l : List Nat, T9 l → ¬ B ≤ v9 l → l.length ≤ 889) := fun l ht hv => short9 hB hnn ht hv
  have HDG : Hid (∀ (d : Nat) (l : List Nat), (∀ n, 1 ≤ n → (n < d ↔ 10 ^ n ≤ v9 l)) → ((8000 : Int) < (d : Int) ↔ B ≤ v9 l)) := fun d l h => by
    have := h nn (by omega)
    rw [hB, ← this]; omega
  have hmm := hM.lt
  have hMA := hM.mod hmA
  generalize Pu.valOf t R ins = val at *
  have HH : Hid _ := And.intro hMA (And.intro hmA hSt)
  clear hB hnn hM hI hi hMA hmA hSt
  go_enter Tryz.func142, Tryz.ntmps142
  go_wp2_with fail
  obtain ⟨hMA, hmA, hSt⟩ := HH.out
  clear HH
  generalize w.alloc (.cells #[.int .u8 t.op, .int .u8 t.x, .int .u8 t.y, .int .u8 t.z] 94) = W at *
  refine hv.mono ?_
  rintro e w2 ⟨hm2, nb, v2, l2, rfl, hN2, hx2, hl2⟩
  obtain ⟨vo, vcap, rfl, -⟩ := owns_form hN2.2
  have hmB : Mod (fun _ => False) w2 (w2.alloc (.cells #[.bool nb, .slice vo l2.length vcap] 141)) := (Mod.refl _ w2).alloc _
  have hdg := digits_any nb (.slice vo l2.length vcap) l2 _ (hN2.mod hmB) (by omega)
  have HX2 : Hid (num9 nb l2 = val) := hx2
  have HTP : Hid (T9 l2) := hN2.1.2.1
  have HH2 : Hid _ := And.intro ((hMA.mod hm2).mod hmB) (And.intro (hN2.mod hmB) (And.intro (hmA.trans (hm2.trans hmB)) (And.intro (heap_alloc_new w2 (.cells #[.bool nb, .slice vo l2.length vcap] 141)) (hmB.keep (hm2.keep hSt (fun f => f)) (fun f => f)))))
  clear hMA hmA hSt hm2 hN2 hx2 hmB hv
  go_wp2_with fail
  obtain ⟨k1, k2, k3, k4, k5⟩ := HH2.out
  clear HH2
  generalize w2.alloc (.cells #[.bool nb, .slice vo l2.length vcap] 141) = W2 at *
  refine hdg.mono ?_
  rintro e w3 ⟨⟨d, rfl, hd6, hdd⟩, hm3⟩
  have hdl := HDG.out d l2 hdd
  have hM3 := k1.mod hm3
  have hN3 := k2.mod hm3
  have hm3w := k3.trans hm3
  have hX3 := hm3.keep k4 (fun f => f)
  have hS3 := hm3.keep k5 (fun f => f)
  clear k1 k2 k3 k4 k5 hdg hdd hm3
  by_cases hbig : B ≤ v9 l2
  · have hdb : (8000 : Int) < (d : Int) := hdl.2 hbig
    have HE : Hid (SetEnd w B mb iv R bs t.x val (.returned (.bool false)) w3) := ⟨hm3w.mono (fun _ _ f => f.elim), .inl ⟨by rw [← HX2.out, natAbs9]; exact hbig, rfl⟩⟩
    clear hdl hM3 hN3 hX3 hS3
    go_wp2_with fail
    go_ret
    exact HE.out
  · have hdb : ¬ (8000 : Int) < (d : Int) := fun h => hbig (hdl.1 h)
    have hl3 := HSH.out l2 HTP.out hbig
    have hM4 := hM3.set hx hR hN3 hl3
    rw [HX2.out] at hM4
    have hmq : Mod (fun q => q = mb) w (set2at w3 mb (1 + t.x * 2) (.bool nb) (.slice vo l2.length vcap)) := (hm3w.mono (fun _ _ f => f.elim)).trans (set2at_own w3 mb (1 + t.x * 2) (.bool nb) (.slice vo l2.length vcap))
    have HE : Hid (SetEnd w B mb iv R bs t.x val (.returned (.bool true)) (set2at w3 mb (1 + t.x * 2) (.bool nb) (.slice vo l2.length vcap)).drew) :=
      ⟨hmq.drew, .inr ⟨by rw [← HX2.out, natAbs9]; exact hbig, rfl, hM4.mod (Mod.refl _ _).drew⟩⟩
    obtain ⟨c0, c1, c2, c3⟩ := cells4 hS3
    obtain ⟨z0, z1⟩ := c2_of hX3
    obtain ⟨ny, yo, yn, ycap, ya, y0, y1, -⟩ := hM3.regs (r := t.x) (by omega)
    have y2 := hM3.fz (1 + t.x * 2)
    have y3 := hM3.fz (1 + t.x * 2 + 1)
    have hml := hM3.lt
    have ix : (t.x : Int) < 256 := by omega
    clear hdl hM3 hN3 hX3 hS3 hM4 hmq hm3w
    go_wp2_with fail
    go_region
    go_wp2_with fail
    go_ret
    exact HE.out
end Go.Proofs.YtmnfndpbblpjiabGreatDoor

/- The program's machine stops. -/
namespace Go.Proofs.YtmnfndpbblpjiabGreatDoor
open Go.RowKit Pu

theorem Mc.rep {w : World} {mb : Nat} {iv : Value} {R : List Int} {bs : List UInt8} {ended : Bool} (h : Mc w mb iv R bs ended) : ∃ ro n cap, w.cell? ⟨mb, 513, none⟩ = some (.slice ro n cap) ∧ w.ownsRow (mb + 1) 5 1 (.slice ro n cap) bs.length (bvs bs) ∧ n = bs.length := by
  obtain ⟨C, h1, -, -, -, ⟨rv, h5, h6⟩, -⟩ := h
  obtain ⟨ro, cap, rfl, -⟩ := owns_form h6
  exact ⟨ro, bs.length, cap, by rw [Mc.cell h1]; exact h5, h6, rfl⟩
theorem Mc.ended {w : World} {mb : Nat} {iv : Value} {R : List Int} {bs : List UInt8} {en : Bool} (h : Mc w mb iv R bs en) : w.cell? ⟨mb, 514, none⟩ = some (.bool en) := by
  obtain ⟨C, h1, -, -, h4, -⟩ := h
  rw [Mc.cell h1]; exact h4
/-- A machine that has ended: its report. -/
def Stopped (w : World) (mb : Nat) (bs : List UInt8) : Prop := w.cell? ⟨mb, 514, none⟩ = some (.bool true) ∧ ∃ ro n cap, w.cell? ⟨mb, 513, none⟩ = some (.slice ro n cap) ∧ w.ownsRow (mb + 1) 5 1 (.slice ro n cap) bs.length (bvs bs) ∧ n = bs.length

set_option maxHeartbeats 1600000 in
set_option maxRecDepth 4000 in
theorem mstop_on (t : Stp) (mb : Nat) (iv : Value) (R : List Int) (bs : List UInt8) (w : World) (hM : Mc w mb iv R bs false) (hs : Small t) (hz : reg R t.x ≠ 0) :
    Calls Tryz.prog 141 #[.pointer (some ⟨mb, 0, none⟩), stV t] w fun e w' => e = .returned (.tuple #[]) ∧ Mod (fun _ => False) w w' := by
  obtain ⟨nx, ao, an, acap, a, cy0, cy1, hU, hxa, la⟩ := hM.regs hs.2.1
  have hmA : Mod (fun _ => False) w (w.alloc (.cells #[.int .u8 t.op, .int .u8 t.x, .int .u8 t.y, .int .u8 t.z] 94)) := (Mod.refl _ w).alloc _
  have hSt := st_new w t
  have hlt := hM.lt
  have hU0 := hU.mod hmA
  have d0 := hmA.cell cy0
  have d1 := hmA.cell cy1
  obtain ⟨e0, e1, e2, e3⟩ := cells4 hSt
  have ix : (t.x : Int) < 256 := by have := hs.2.1; omega
  have HH : Hid _ := And.intro hU0 (And.intro hmA (And.intro d0 (And.intro d1 e1)))
  have hsg : sgn (num9 nx a) = 1 ∨ sgn (num9 nx a) = -1 := by
    rw [hxa]; unfold sgn
    by_cases hq : reg R t.x < 0
    · rw [if_pos hq]; exact .inr rfl
    · rw [if_neg hq, if_neg hz]; exact .inl rfl
  clear hU hmA hSt hU0 d0 d1 e0 e1 e2 e3 hM cy0 cy1 hxa hz
  go_enter Tryz.func141, Tryz.ntmps141
  go_wp2_with fail
  generalize w.alloc (.cells #[.int .u8 t.op, .int .u8 t.x, .int .u8 t.y, .int .u8 t.z] 94) = W at *
  obtain ⟨hU0, hmA, d0, d1, e1⟩ := HH.out
  clear HH
  have hcall := sign9_any nx (.slice ao an acap) a W.drew (hU0.mod (Mod.refl _ W).drew) (by omega)
  generalize sgn (num9 nx a) = sg at *
  rcases hsg with rfl | rfl
  all_goals
    first
      | go_region_with (go_at_call 139; refine hcall.mono ?_; rintro e w2 ⟨rfl, hm2⟩)
      | fail
    all_goals
      have hmE := hmA.drew.trans hm2
      go_wp2_with fail
      exact bodyPost_ret (v := .tuple #[]) (by simp [results, Tryz.results141]) rfl ⟨rfl, hmE⟩
end Go.Proofs.YtmnfndpbblpjiabGreatDoor

/- The program's machine stops: the end. -/
namespace Go.Proofs.YtmnfndpbblpjiabGreatDoor
open Go.RowKit Pu

theorem spc_get8 (y : Nat) (h : y < (⟨#[115, 112, 99]⟩ : ByteArray).size) : (⟨#[115, 112, 99]⟩ : ByteArray)[y]'h = spc y := by
  have : y = 0 ∨ y = 1 ∨ y = 2 := by have : y < 3 := h; omega
  rcases this with rfl | rfl | rfl <;> rfl
attribute [local go_sem] spc_get8
/-- The report set, and the end. -/
theorem stopped_of {w : World} {mb n cap : Nat} {C : Array Value} {ro : Option Addr} {bs : List UInt8} (h : w.heap[mb]? = some (.cells C 144 (0, 0))) (hC : C.size = 515) (hO : w.ownsRow (mb + 1) 5 1 (.slice ro n cap) bs.length (bvs bs)) (hn : n = bs.length) :
    Stopped ((w.setCell ⟨mb, 513, none⟩ (.slice ro n cap)).setCell ⟨mb, 514, none⟩ (.bool true)) mb bs := by
  have e : (w.setCell ⟨mb, 513, none⟩ (.slice ro n cap)).setCell ⟨mb, 514, none⟩ (.bool true) = set2at w mb 513 (.slice ro n cap) (.bool true) := rfl
  rw [e]
  refine ⟨by rw [set2at_cell h, if_pos ⟨rfl, by omega⟩], ro, n, cap, by rw [set2at_cell h, if_neg (by omega), if_pos ⟨rfl, by omega⟩], owns_mod hO (set2at_own w mb 513 _ _) (fun g h1 h2 => by omega), hn⟩

set_option maxHeartbeats 800000 in
set_option maxRecDepth 4000 in
theorem mstop_end (t : Stp) (mb : Nat) (iv : Value) (R : List Int) (bs : List UInt8) (w : World) (hM : Mc w mb iv R bs false) (hs : Small t) (hz : reg R t.x = 0) (hy3 : t.y < 3) (hz16 : t.z < 16) (hbs : bs.length ≤ 10000) :
    Calls Tryz.prog 141 #[.pointer (some ⟨mb, 0, none⟩), stV t] w fun e w' => e = .returned (.tuple #[]) ∧ Mod (fun q => mb ≤ q) w w' ∧ Stopped w' mb (bs ++ [spc t.y] ++ (dec (t.z : Int)).data.toList) := by
  obtain ⟨nx, ao, an, acap, a, cy0, cy1, hU, hxa, la⟩ := hM.regs hs.2.1
  have hmA : Mod (fun _ => False) w (w.alloc (.cells #[.int .u8 t.op, .int .u8 t.x, .int .u8 t.y, .int .u8 t.z] 94)) := (Mod.refl _ w).alloc _
  have hSt := st_new w t
  have hlt := hM.lt
  have hU0 := hU.mod hmA
  have d0 := hmA.cell cy0
  have d1 := hmA.cell cy1
  have ix : (t.x : Int) < 256 := by have := hs.2.1; omega
  have hMA := hM.mod hmA
  have HH : Hid _ := And.intro hU0 (And.intro hmA (And.intro d0 (And.intro d1 (And.intro hSt hMA))))
  have hsg : sgn (num9 nx a) = 0 := by rw [hxa]; unfold sgn; rw [if_neg (by omega), if_pos hz]
  have w1 : IntKind.i64.wrap (t.y : Int) = (t.y : Int) := by simp [IntKind.wrap, IntKind.signed, IntKind.bits]; omega
  have w2 : IntKind.i64.wrap (t.z : Int) = (t.z : Int) := by simp [IntKind.wrap, IntKind.signed, IntKind.bits]; omega
  have q3 : ¬ (3 : Int) ≤ (t.y : Int) := by omega
  clear hU hmA hSt hU0 d0 d1 hM cy0 cy1 hxa hz hMA
  go_enter Tryz.func141, Tryz.ntmps141
  go_wp2_with fail
  generalize w.alloc (.cells #[.int .u8 t.op, .int .u8 t.x, .int .u8 t.y, .int .u8 t.z] 94) = W at *
  obtain ⟨hU0, hmA, d0, d1, hSt, hMA⟩ := HH.out
  clear HH
  have hcall := sign9_any nx (.slice ao an acap) a W.drew (hU0.mod (Mod.refl _ W).drew) (by omega)
  rw [hsg] at hcall
  obtain ⟨e0, e1, e2, e3⟩ := cells4 hSt
  clear hsg hU0
  have HHH : Hid _ := And.intro hmA (And.intro hSt hMA)
  clear hmA hSt hMA e0
  go_region_held3 (fun w' => w'.cell? ⟨mb, 1 + t.x * 2, none⟩ = some (.bool nx) ∧ w'.cell? ⟨mb, 1 + t.x * 2 + 1, none⟩ = some (.slice ao an acap) ∧ w'.cell? ⟨w.heap.size, 1, none⟩ = some (.int .u8 t.x) ∧ w'.cell? ⟨w.heap.size, 2, none⟩ = some (.int .u8 t.y))
    (first | go_keep | (exact hkeep))
    ((go_at_call 139; refine hcall.mono ?_; rintro e w2 ⟨rfl, hm2⟩; have hkeep := And.intro (hm2.cell (a := W.drew) d0) (And.intro (hm2.cell (a := W.drew) d1) (And.intro (hm2.cell (a := W.drew) e1) (hm2.cell (a := W.drew) e2)))))
  obtain ⟨hmA, hSt, hMA⟩ := HHH.out
  have hM2 := (hMA.mod (Mod.refl _ W).drew).mod hm2
  have hS2 := hm2.keep (a := W.drew) hSt (fun f => f)
  have hmw := hmA.drew.trans hm2
  obtain ⟨-, -, e2', e3'⟩ := cells4 hS2
  obtain ⟨ro, rn, rcap, c513, hrow, hrn⟩ := hM2.rep
  subst hrn
  have c514 := hM2.ended
  have f513 := hM2.fz 513
  have f514 := hM2.fz 514
  have hml := hM2.lt
  obtain ⟨C, hC, hCs, -⟩ := hM2
  have hst := addstop_any (.slice ro bs.length rcap) bs (spc t.y) t.z (mb + 1) w2.drew (owns_mod hrow (Mod.refl (fun _ => False) w2).drew (fun _ _ f => f)) hbs hml hz16
  have HC : Hid _ := And.intro hC (And.intro hCs hmw)
  clear hkeep d0 d1 e1 e2 e3 hcall HHH hmA hSt hMA hS2 hmw hC hCs hrow hm2
  generalize hsc : spc t.y = sc at *
  generalize hb2 : bs ++ [sc] ++ (dec (t.z : Int)).data.toList = bs2 at *
  have HB2 : Hid (bs ++ [spc t.y] ++ (dec (t.z : Int)).data.toList = bs2) := show _ = _ by rw [hsc]; exact hb2
  clear hb2
  go_wp2_with fail
  first
    | go_region_with (go_at_call 176; refine hst.mono ?_; rintro e w3 ⟨hm3, v3, rfl, hO3⟩; obtain ⟨vo3, vcap3, rfl, -⟩ := owns_form hO3; have hC3 := hm3.keep (a := w2.drew) HC.out.1 (Nat.not_succ_le_self mb); have k513 := (Mc.cell hC3 513).trans ((Mc.cell HC.out.1 513).symm.trans c513); have k514 := (Mc.cell hC3 514).trans ((Mc.cell HC.out.1 514).symm.trans c514); have g513 := fz3 hC3 513; have g514 := fz3 hC3 514)
    | fail
  all_goals
    have hE := stopped_of hC3 HC.out.2.1 hO3 rfl
    have hmE : Mod (fun q => mb ≤ q) w ((w3.setCell ⟨mb, 513, none⟩ (.slice vo3 bs2.length vcap3)).setCell ⟨mb, 514, none⟩ (.bool true)) :=
      ((HC.out.2.2.drew.mono (q := fun q => mb ≤ q) (fun _ _ f => f.elim)).trans (hm3.mono (fun q _ h => Nat.le_of_succ_le h))).trans ((set2at_own w3 mb 513 (.slice vo3 bs2.length vcap3) (.bool true)).mono (fun q _ h => Nat.le_of_eq h.symm))
    rw [← HB2.out] at hE
    have HE : Hid _ := And.intro hmE hE
    clear hE hmE hO3 hC3 hm3
    go_wp2_with fail
    exact bodyPost_end (v := .tuple #[]) (by simp [results, Tryz.results141]) rfl ⟨rfl, by have := HE.out; rw [HB2.out] at this; exact this.1, by have := HE.out; rw [HB2.out] at this ⊢; exact this.2⟩
end Go.Proofs.YtmnfndpbblpjiabGreatDoor
