/- The program's Add, Sub, Mul. -/
import Derived.Test.YtmnfndpbblpjiaaDoorZd09
import Derived.Test.YtmnfndpbblpjiaaDoorZd02
namespace Go.Proofs.YtmnfndpbblpjiaaDoor
open Go.RowKit Pu

theorem Pu.num9_not (nb : Bool) (l : List Nat) : num9 (!nb) l = -num9 nb l := by cases nb <;> simp [num9]

set_option maxHeartbeats 800000 in
set_option maxRecDepth 4000 in
theorem add9_any (nb nc : Bool) (v u : Value) (l m : List Nat) (w : World) (hN : N9 w nb v l) (hU : N9 w nc u m) (ll : l.length ≤ 40000) (lm : m.length ≤ 40000) :
    Calls Tryd.prog 56 #[n9 nb v, n9 nc u] w (N9E w (num9 nb l + num9 nc m) (max l.length m.length + 1)) := by
  obtain ⟨vo, vcap, rfl, -⟩ := owns_form hN.2
  obtain ⟨uo, ucap, rfl, -⟩ := owns_form hU.2
  obtain ⟨a1, a2, a3⟩ := alloc3_at w (.cells #[.bool nb, .slice vo l.length vcap] 68) (.cells #[.bool nc, .slice uo m.length ucap] 68) (.cells #[.bool false, .slice none 0 0] 68)
  have hm0 : Mod (fun _ => False) w (((w.alloc (.cells #[.bool nb, .slice vo l.length vcap] 68)).alloc (.cells #[.bool nc, .slice uo m.length ucap] 68)).alloc (.cells #[.bool false, .slice none 0 0] 68)) := (((Mod.refl _ w).alloc _).alloc _).alloc _
  have hs := sum_any nb nc (.slice vo l.length vcap) (.slice uo m.length ucap) l m _ (hN.mod hm0) (hU.mod hm0).2 hU.1.1 hU.1.2.1 ll lm
  have HT : Hid (num9 nb l + num9 nc m = num9 nb l + num9 nc m) := show _ = _ by rfl
  rw [HT.out] at hs
  generalize num9 nb l + num9 nc m = tot at *
  generalize max l.length m.length + 1 = mx at *
  have HH : Hid _ := And.intro a3 hm0
  clear a1 a2 a3 hm0 hN hU HT
  go_enter Tryd.func56, Tryd.ntmps56
  go_wp2_with fail
  refine hs.mono ?_
  rintro e w3 ⟨hm3, nb3, v3, l3, rfl, hN3, hx3, hl3⟩
  obtain ⟨hR0, hm0⟩ := HH.out
  have hR3 := hm3.keep hR0 (fun f => f)
  obtain ⟨r0, r1⟩ := c2_of hR3
  have f0 := fz3 hR3 0
  have f1 := fz3 hR3 1
  obtain ⟨vo3, vcap3, rfl, -⟩ := owns_form hN3.2
  have HE : Hid _ := n9_end (x := tot) (n := mx) hR3 (by omega) (hm0.trans hm3) hN3.2 hN3.1 hx3 hl3
  clear hR3 hm3 hN3 hx3 hs hR0 hm0 HH
  go_wp2_with fail
  obtain ⟨k1, q0, q1⟩ := HE.out
  unfold set2at at q0 q1
  exact bodyPost_ret (by simp [results, Tryd.results56, go_sem, q0, q1]) rfl k1

set_option maxHeartbeats 800000 in
set_option maxRecDepth 4000 in
theorem sub9_any (nb nc : Bool) (v u : Value) (l m : List Nat) (w : World) (hN : N9 w nb v l) (hU : N9 w nc u m) (ll : l.length ≤ 40000) (lm : m.length ≤ 40000) :
    Calls Tryd.prog 57 #[n9 nb v, n9 nc u] w (N9E w (num9 nb l - num9 nc m) (max l.length m.length + 1)) := by
  obtain ⟨vo, vcap, rfl, -⟩ := owns_form hN.2
  obtain ⟨uo, ucap, rfl, -⟩ := owns_form hU.2
  obtain ⟨a1, a2, a3⟩ := alloc3_at w (.cells #[.bool nb, .slice vo l.length vcap] 68) (.cells #[.bool nc, .slice uo m.length ucap] 68) (.cells #[.bool false, .slice none 0 0] 68)
  have hm0 : Mod (fun _ => False) w (((w.alloc (.cells #[.bool nb, .slice vo l.length vcap] 68)).alloc (.cells #[.bool nc, .slice uo m.length ucap] 68)).alloc (.cells #[.bool false, .slice none 0 0] 68)) := (((Mod.refl _ w).alloc _).alloc _).alloc _
  have hs := sum_any nb (!nc) (.slice vo l.length vcap) (.slice uo m.length ucap) l m _ (hN.mod hm0) (hU.mod hm0).2 hU.1.1 hU.1.2.1 ll lm
  have HT : Hid (num9 nb l + num9 (!nc) m = num9 nb l - num9 nc m) := show _ = _ by rw [num9_not]; omega
  rw [HT.out] at hs
  generalize num9 nb l - num9 nc m = tot at *
  generalize max l.length m.length + 1 = mx at *
  have HH : Hid _ := And.intro a3 hm0
  clear a1 a2 a3 hm0 hN hU HT
  go_enter Tryd.func57, Tryd.ntmps57
  go_wp2_with fail
  refine hs.mono ?_
  rintro e w3 ⟨hm3, nb3, v3, l3, rfl, hN3, hx3, hl3⟩
  obtain ⟨hR0, hm0⟩ := HH.out
  have hR3 := hm3.keep hR0 (fun f => f)
  obtain ⟨r0, r1⟩ := c2_of hR3
  have f0 := fz3 hR3 0
  have f1 := fz3 hR3 1
  obtain ⟨vo3, vcap3, rfl, -⟩ := owns_form hN3.2
  have HE : Hid _ := n9_end (x := tot) (n := mx) hR3 (by omega) (hm0.trans hm3) hN3.2 hN3.1 hx3 hl3
  clear hR3 hm3 hN3 hx3 hs hR0 hm0 HH
  go_wp2_with fail
  obtain ⟨k1, q0, q1⟩ := HE.out
  unfold set2at at q0 q1
  exact bodyPost_ret (by simp [results, Tryd.results57, go_sem, q0, q1]) rfl k1

set_option maxHeartbeats 1600000 in
set_option maxRecDepth 4000 in
theorem mul9_any (nb nc : Bool) (v u : Value) (l m : List Nat) (w : World) (hN : N9 w nb v l) (hU : N9 w nc u m) (ll : l.length ≤ 40000) (lm : m.length ≤ 40000) :
    Calls Tryd.prog 58 #[n9 nb v, n9 nc u] w (N9E w (num9 nb l * num9 nc m) (l.length + m.length)) := by
  obtain ⟨vo, vcap, rfl, -⟩ := owns_form hN.2
  obtain ⟨uo, ucap, rfl, -⟩ := owns_form hU.2
  obtain ⟨a1, a2, a3⟩ := alloc3_at w (.cells #[.bool nb, .slice vo l.length vcap] 68) (.cells #[.bool nc, .slice uo m.length ucap] 68) (.cells #[.bool false, .slice none 0 0] 68)
  have hm0 : Mod (fun _ => False) w (((w.alloc (.cells #[.bool nb, .slice vo l.length vcap] 68)).alloc (.cells #[.bool nc, .slice uo m.length ucap] 68)).alloc (.cells #[.bool false, .slice none 0 0] 68)) := (((Mod.refl _ w).alloc _).alloc _).alloc _
  have HS : Hid (∀ k : List Nat, v9 k = v9 l * v9 m → num9 (nb != nc) k = num9 nb l * num9 nc m) := fun k h => num9_mul h
  generalize num9 nb l * num9 nc m = tot at *
  have HH : Hid _ := And.intro a1 (And.intro a2 (And.intro a3 hm0))
  clear a1 a2 a3 hm0
  go_enter Tryd.func58, Tryd.ntmps58
  go_wp2_with fail
  generalize ((w.alloc (.cells #[.bool nb, .slice vo l.length vcap] 68)).alloc (.cells #[.bool nc, .slice uo m.length ucap] 68)).alloc (.cells #[.bool false, .slice none 0 0] 68) = W at *
  obtain ⟨a1, a2, hR0, hm0⟩ := HH.out
  obtain ⟨g0, g1⟩ := c2_of a1
  obtain ⟨h0, h1⟩ := c2_of a2
  have hp := product_any (.slice vo l.length vcap) (.slice uo m.length ucap) l m 0 0 W.drew (owns_mod hN.2 hm0.drew (fun _ _ f => f)) (owns_mod hU.2 hm0.drew (fun _ _ f => f)) hN.1.1 hU.1.1 ll lm
  clear HH a1 a2 hN hU
  cases nb
  · cases nc
    · go_region_held3 (fun w' => w'.cell? ⟨w.heap.size, 0, none⟩ = some (.bool false) ∧ w'.cell? ⟨w.heap.size, 1, none⟩ = some (.slice vo l.length vcap) ∧ w'.cell? ⟨w.heap.size + 1, 0, none⟩ = some (.bool false) ∧ w'.cell? ⟨w.heap.size + 1, 1, none⟩ = some (.slice uo m.length ucap))
        (first | go_keep | (exact hkeep) | (exact hkeep2))
        (first
          | (go_at_call 64; refine hp.mono ?_; rintro e w2 ⟨hm2, v2, l2, rfl, hO2, hd2, ht2, hv2, hl2⟩; have hkeep := And.intro (hm2.cell (a := W.drew) g0) (And.intro (hm2.cell (a := W.drew) g1) (And.intro (hm2.cell (a := W.drew) h0) (hm2.cell (a := W.drew) h1))))
          | (go_at_call 63; refine (signed_any false v2 l2 _ w2 hO2 hd2 ht2 (by omega)).mono ?_; rintro e w3 ⟨hm3, nb3, v3, l3, rfl, hN3, hx3, hl3⟩; have hkeep := And.intro (hm3.cell (hm2.cell (a := W.drew) g0)) (And.intro (hm3.cell (hm2.cell (a := W.drew) g1)) (And.intro (hm3.cell (hm2.cell (a := W.drew) h0)) (hm3.cell (hm2.cell (a := W.drew) h1)))); have hR3 := hm3.keep (hm2.keep (a := W.drew) hR0 (fun f => f)) (fun f => f); obtain ⟨r0, r1⟩ := c2_of hR3; have f0 := fz3 hR3 0; have f1 := fz3 hR3 1; obtain ⟨vo3, vcap3, rfl, -⟩ := owns_form hN3.2; have hkeep2 := And.intro ((set2_cell (w.heap.size + 2) w3 (.bool nb3) (.slice vo3 l3.length vcap3) w.heap.size 0 (by omega)).trans hkeep.1) (And.intro ((set2_cell (w.heap.size + 2) w3 (.bool nb3) (.slice vo3 l3.length vcap3) w.heap.size 1 (by omega)).trans hkeep.2.1) (And.intro ((set2_cell (w.heap.size + 2) w3 (.bool nb3) (.slice vo3 l3.length vcap3) (w.heap.size + 1) 0 (by omega)).trans hkeep.2.2.1) ((set2_cell (w.heap.size + 2) w3 (.bool nb3) (.slice vo3 l3.length vcap3) (w.heap.size + 1) 1 (by omega)).trans hkeep.2.2.2)))))
      have HE : Hid _ := n9_end (x := tot) (n := l.length + m.length) hR3 (by omega) ((hm0.drew.trans hm2).trans hm3) hN3.2 hN3.1 (hx3.trans (HS.out l2 hv2)) (by omega)
      clear hR3 hm3 hN3 hx3 hR0 hm0 hm2 hO2 hd2 ht2 hv2
      go_wp2_with fail
      obtain ⟨k1, q0, q1⟩ := HE.out
      unfold set2at at q0 q1
      exact bodyPost_ret (by simp [results, Tryd.results58, go_sem, q0, q1]) rfl k1
    · go_region_held3 (fun w' => w'.cell? ⟨w.heap.size, 0, none⟩ = some (.bool false) ∧ w'.cell? ⟨w.heap.size, 1, none⟩ = some (.slice vo l.length vcap) ∧ w'.cell? ⟨w.heap.size + 1, 0, none⟩ = some (.bool true) ∧ w'.cell? ⟨w.heap.size + 1, 1, none⟩ = some (.slice uo m.length ucap))
        (first | go_keep | (exact hkeep) | (exact hkeep2))
        (first
          | (go_at_call 64; refine hp.mono ?_; rintro e w2 ⟨hm2, v2, l2, rfl, hO2, hd2, ht2, hv2, hl2⟩; have hkeep := And.intro (hm2.cell (a := W.drew) g0) (And.intro (hm2.cell (a := W.drew) g1) (And.intro (hm2.cell (a := W.drew) h0) (hm2.cell (a := W.drew) h1))))
          | (go_at_call 63; refine (signed_any true v2 l2 _ w2 hO2 hd2 ht2 (by omega)).mono ?_; rintro e w3 ⟨hm3, nb3, v3, l3, rfl, hN3, hx3, hl3⟩; have hkeep := And.intro (hm3.cell (hm2.cell (a := W.drew) g0)) (And.intro (hm3.cell (hm2.cell (a := W.drew) g1)) (And.intro (hm3.cell (hm2.cell (a := W.drew) h0)) (hm3.cell (hm2.cell (a := W.drew) h1)))); have hR3 := hm3.keep (hm2.keep (a := W.drew) hR0 (fun f => f)) (fun f => f); obtain ⟨r0, r1⟩ := c2_of hR3; have f0 := fz3 hR3 0; have f1 := fz3 hR3 1; obtain ⟨vo3, vcap3, rfl, -⟩ := owns_form hN3.2; have hkeep2 := And.intro ((set2_cell (w.heap.size + 2) w3 (.bool nb3) (.slice vo3 l3.length vcap3) w.heap.size 0 (by omega)).trans hkeep.1) (And.intro ((set2_cell (w.heap.size + 2) w3 (.bool nb3) (.slice vo3 l3.length vcap3) w.heap.size 1 (by omega)).trans hkeep.2.1) (And.intro ((set2_cell (w.heap.size + 2) w3 (.bool nb3) (.slice vo3 l3.length vcap3) (w.heap.size + 1) 0 (by omega)).trans hkeep.2.2.1) ((set2_cell (w.heap.size + 2) w3 (.bool nb3) (.slice vo3 l3.length vcap3) (w.heap.size + 1) 1 (by omega)).trans hkeep.2.2.2)))))
      have HE : Hid _ := n9_end (x := tot) (n := l.length + m.length) hR3 (by omega) ((hm0.drew.trans hm2).trans hm3) hN3.2 hN3.1 (hx3.trans (HS.out l2 hv2)) (by omega)
      clear hR3 hm3 hN3 hx3 hR0 hm0 hm2 hO2 hd2 ht2 hv2
      go_wp2_with fail
      obtain ⟨k1, q0, q1⟩ := HE.out
      unfold set2at at q0 q1
      exact bodyPost_ret (by simp [results, Tryd.results58, go_sem, q0, q1]) rfl k1
  · cases nc
    · go_region_held3 (fun w' => w'.cell? ⟨w.heap.size, 0, none⟩ = some (.bool true) ∧ w'.cell? ⟨w.heap.size, 1, none⟩ = some (.slice vo l.length vcap) ∧ w'.cell? ⟨w.heap.size + 1, 0, none⟩ = some (.bool false) ∧ w'.cell? ⟨w.heap.size + 1, 1, none⟩ = some (.slice uo m.length ucap))
        (first | go_keep | (exact hkeep) | (exact hkeep2))
        (first
          | (go_at_call 64; refine hp.mono ?_; rintro e w2 ⟨hm2, v2, l2, rfl, hO2, hd2, ht2, hv2, hl2⟩; have hkeep := And.intro (hm2.cell (a := W.drew) g0) (And.intro (hm2.cell (a := W.drew) g1) (And.intro (hm2.cell (a := W.drew) h0) (hm2.cell (a := W.drew) h1))))
          | (go_at_call 63; refine (signed_any true v2 l2 _ w2 hO2 hd2 ht2 (by omega)).mono ?_; rintro e w3 ⟨hm3, nb3, v3, l3, rfl, hN3, hx3, hl3⟩; have hkeep := And.intro (hm3.cell (hm2.cell (a := W.drew) g0)) (And.intro (hm3.cell (hm2.cell (a := W.drew) g1)) (And.intro (hm3.cell (hm2.cell (a := W.drew) h0)) (hm3.cell (hm2.cell (a := W.drew) h1)))); have hR3 := hm3.keep (hm2.keep (a := W.drew) hR0 (fun f => f)) (fun f => f); obtain ⟨r0, r1⟩ := c2_of hR3; have f0 := fz3 hR3 0; have f1 := fz3 hR3 1; obtain ⟨vo3, vcap3, rfl, -⟩ := owns_form hN3.2; have hkeep2 := And.intro ((set2_cell (w.heap.size + 2) w3 (.bool nb3) (.slice vo3 l3.length vcap3) w.heap.size 0 (by omega)).trans hkeep.1) (And.intro ((set2_cell (w.heap.size + 2) w3 (.bool nb3) (.slice vo3 l3.length vcap3) w.heap.size 1 (by omega)).trans hkeep.2.1) (And.intro ((set2_cell (w.heap.size + 2) w3 (.bool nb3) (.slice vo3 l3.length vcap3) (w.heap.size + 1) 0 (by omega)).trans hkeep.2.2.1) ((set2_cell (w.heap.size + 2) w3 (.bool nb3) (.slice vo3 l3.length vcap3) (w.heap.size + 1) 1 (by omega)).trans hkeep.2.2.2)))))
      have HE : Hid _ := n9_end (x := tot) (n := l.length + m.length) hR3 (by omega) ((hm0.drew.trans hm2).trans hm3) hN3.2 hN3.1 (hx3.trans (HS.out l2 hv2)) (by omega)
      clear hR3 hm3 hN3 hx3 hR0 hm0 hm2 hO2 hd2 ht2 hv2
      go_wp2_with fail
      obtain ⟨k1, q0, q1⟩ := HE.out
      unfold set2at at q0 q1
      exact bodyPost_ret (by simp [results, Tryd.results58, go_sem, q0, q1]) rfl k1
    · go_region_held3 (fun w' => w'.cell? ⟨w.heap.size, 0, none⟩ = some (.bool true) ∧ w'.cell? ⟨w.heap.size, 1, none⟩ = some (.slice vo l.length vcap) ∧ w'.cell? ⟨w.heap.size + 1, 0, none⟩ = some (.bool true) ∧ w'.cell? ⟨w.heap.size + 1, 1, none⟩ = some (.slice uo m.length ucap))
        (first | go_keep | (exact hkeep) | (exact hkeep2))
        (first
          | (go_at_call 64; refine hp.mono ?_; rintro e w2 ⟨hm2, v2, l2, rfl, hO2, hd2, ht2, hv2, hl2⟩; have hkeep := And.intro (hm2.cell (a := W.drew) g0) (And.intro (hm2.cell (a := W.drew) g1) (And.intro (hm2.cell (a := W.drew) h0) (hm2.cell (a := W.drew) h1))))
          | (go_at_call 63; refine (signed_any false v2 l2 _ w2 hO2 hd2 ht2 (by omega)).mono ?_; rintro e w3 ⟨hm3, nb3, v3, l3, rfl, hN3, hx3, hl3⟩; have hkeep := And.intro (hm3.cell (hm2.cell (a := W.drew) g0)) (And.intro (hm3.cell (hm2.cell (a := W.drew) g1)) (And.intro (hm3.cell (hm2.cell (a := W.drew) h0)) (hm3.cell (hm2.cell (a := W.drew) h1)))); have hR3 := hm3.keep (hm2.keep (a := W.drew) hR0 (fun f => f)) (fun f => f); obtain ⟨r0, r1⟩ := c2_of hR3; have f0 := fz3 hR3 0; have f1 := fz3 hR3 1; obtain ⟨vo3, vcap3, rfl, -⟩ := owns_form hN3.2; have hkeep2 := And.intro ((set2_cell (w.heap.size + 2) w3 (.bool nb3) (.slice vo3 l3.length vcap3) w.heap.size 0 (by omega)).trans hkeep.1) (And.intro ((set2_cell (w.heap.size + 2) w3 (.bool nb3) (.slice vo3 l3.length vcap3) w.heap.size 1 (by omega)).trans hkeep.2.1) (And.intro ((set2_cell (w.heap.size + 2) w3 (.bool nb3) (.slice vo3 l3.length vcap3) (w.heap.size + 1) 0 (by omega)).trans hkeep.2.2.1) ((set2_cell (w.heap.size + 2) w3 (.bool nb3) (.slice vo3 l3.length vcap3) (w.heap.size + 1) 1 (by omega)).trans hkeep.2.2.2)))))
      have HE : Hid _ := n9_end (x := tot) (n := l.length + m.length) hR3 (by omega) ((hm0.drew.trans hm2).trans hm3) hN3.2 hN3.1 (hx3.trans (HS.out l2 hv2)) (by omega)
      clear hR3 hm3 hN3 hx3 hR0 hm0 hm2 hO2 hd2 ht2 hv2
      go_wp2_with fail
      obtain ⟨k1, q0, q1⟩ := HE.out
      unfold set2at at q0 q1
      exact bodyPost_ret (by simp [results, Tryd.results58, go_sem, q0, q1]) rfl k1
end Go.Proofs.YtmnfndpbblpjiaaDoor

/- The program's decode. -/
namespace Go.Proofs.YtmnfndpbblpjiaaDoor
open Go.RowKit Pu

/-- What decode answers of a text. -/
def DecEnd (s : ByteArray) (w w' : World) (e : Ending) : Prop :=
  ∃ (a b : Nat) (ao : Option Addr) (n cap : Nat), e = .returned (.tuple #[.agg #[.int .u8 a, .int .u8 b, .slice ao n cap], .int .i64 (vfy s).1, .int .i64 (vfy s).2]) ∧
    ((vfy s).1 = 0 → a = g s 2 ∧ b = g s 3 ∧ begunB s = true ∧ (∀ j, j < nst s → rightB (steps s) j (stepAt s j) (g s 2) (g s 3) = true) ∧ PLst w' w.heap.size (.slice ao n cap) (steps s))
theorem Tryd.marks0 : Tryd.zeroCells50 = mcells (fun _ => false) := by rw [mcells_none]; kernel_rfl
theorem mset {w : World} {b : Nat} {M : Nat → Bool} (r : Nat) (v : Bool) (h : w.heap[b]? = some (.cells (mcells M) 50 (0, 0))) : (w.setCell ⟨b, r, none⟩ (.bool v)).heap[b]? = some (.cells (mcells (fun i => if i = r then v else M i)) 50 (0, 0)) := by
  rw [← mcells_set]
  simp [World.setCell, Array.getElem?_modify, h]
theorem dec_long (s : ByteArray) (w : World) (hs : 8006 < s.size) (hm : s.size ≤ maxLen) : Calls Tryd.prog 16 #[.string s] w fun e w' => e = .returned (.tuple #[.agg #[.int .u8 0, .int .u8 0, .slice none 0 0], .int .i64 1, .int .i64 0]) ∧ Mod (fun _ => False) w w' := by
  unfold maxLen at hm
  go_enter Tryd.func16, Tryd.ntmps16
  go_wp2_with fail
  exact bodyPost_ret (v := .tuple #[.agg #[.int .u8 0, .int .u8 0, .slice none 0 0], .int .i64 1, .int .i64 0]) (by simp [results, Tryd.results16, go_sem]) rfl ⟨rfl, (Mod.refl _ w).alloc _⟩

set_option maxHeartbeats 1600000 in
set_option maxRecDepth 100000 in
theorem dec_any (s : ByteArray) (w : World) (hs : s.size ≤ 8006) : Calls Tryd.prog 16 #[.string s] w fun e w' => DecEnd s w w' e ∧ Mod (fun _ => False) w w' := by
  have hz := Tryd.marks0
  have HZ : Hid (Tryd.zeroCells50 = mcells (fun _ => false)) := hz
  clear hz
  go_enter Tryd.func16, Tryd.ntmps16
  go_wp2_with fail
  refine (split_any s _ hs).mono ?_
  rintro e w1 ⟨⟨hb, rfl⟩ | ⟨hb, v, rfl, hL⟩, hm1⟩
  · have HV : Hid (vfy s = (8, 0)) := vfy_bad hb
    clear hb
    have hz0 := hm1.keep (heap_alloc_new w (.cells #[.int .u8 0, .int .u8 0, .slice none 0 0] 41)) (fun f => f)
    obtain ⟨c0, c1, c2⟩ := cells3 hz0
    have e0 := fz3 hz0 0
    have e1 := fz3 hz0 1
    have e2 := fz3 hz0 2
    have hlt := lt_of_block hz0
    have hmw : Mod (fun _ => False) w w1 := ((Mod.refl _ w).alloc _).trans hm1
    have hm4 := (set3_mod hmw w.heap.size (.int .u8 0) (.int .u8 0) (.slice none 0 0) (Nat.le_refl _)).alloc (.cells #[.int .u8 0, .int .u8 0, .slice none 0 0] 41)
    have HC : Hid _ := cells3 (((Mod.refl (fun _ => False) _).alloc (.cells #[.int .u8 0, .int .u8 0, .slice none 0 0] 41)).keep (set3_at (x' := .int .u8 0) (y' := .int .u8 0) (z' := .slice none 0 0) hz0) (fun f => f))
    have HE : Hid (DecEnd s w ((set3 w1 w.heap.size (.int .u8 0) (.int .u8 0) (.slice none 0 0)).alloc (.cells #[.int .u8 0, .int .u8 0, .slice none 0 0] 41)) (.returned (.tuple #[.agg #[.int .u8 0, .int .u8 0, .slice none 0 0], .int .i64 8, .int .i64 0]))) :=
      ⟨0, 0, none, 0, 0, by rw [HV.out]; rfl, fun h => by rw [HV.out] at h; cases h⟩
    clear hz0
    go_wp2_with fail
    obtain ⟨g0, g1, g2⟩ := HC.out
    unfold set3 at g0 g1 g2
    exact bodyPost_ret (v := .tuple #[.agg #[.int .u8 0, .int .u8 0, .slice none 0 0], .int .i64 8, .int .i64 0]) (by simp [results, Tryd.results16, go_sem, g0, g1, g2]) rfl ⟨HE.out, hm4⟩
  · have hlen : (steps s).length = nst s := stepsTo_len s _
    have HLen : Hid ((steps s).length = nst s) := hlen
    have HB : Hid (begunB s = true) := hb
    have hns : nst s ≤ 2000 := (nst_of hb).2.2.1
    have l2 := g_lt s 2
    have l3 := g_lt s 3
    unfold PLst at hL
    rw [hlen] at hL
    clear hb hlen
    obtain ⟨ao, cap, rfl, -⟩ := owns_form hL
    have hz0 := hm1.keep (heap_alloc_new w (.cells #[.int .u8 0, .int .u8 0, .slice none 0 0] 41)) (fun f => f)
    have hlt := lt_of_block hz0
    have hmw : Mod (fun _ => False) w w1 := ((Mod.refl _ w).alloc _).trans hm1
    clear hm1
    have hsw := hmw.size
    generalize hr2 : g s 2 = r2 at *
    generalize hr3 : g s 3 = r3 at *
    have HR2 : Hid (g s 2 = r2) := hr2
    have HR3 : Hid (g s 3 = r3) := hr3
    clear hr2 hr3
    have hm2 : Mod (fun _ => False) w1 (w1.alloc (.cells #[.int .u8 r2, .int .u8 r3, .slice ao (nst s) cap] 41)) := (Mod.refl _ w1).alloc _
    have hp2 : (w1.alloc (.cells #[.int .u8 r2, .int .u8 r3, .slice ao (nst s) cap] 41)).heap[w1.heap.size]? = some (.cells #[.int .u8 r2, .int .u8 r3, .slice ao (nst s) cap] 41 (0, 0)) := heap_alloc_new w1 _
    have hL2 := owns_mod hL hm2 (fun _ _ f => f)
    have hz2 := hm2.keep hz0 (fun f => f)
    have hmw2 := hmw.trans hm2
    have hmb : ((w1.alloc (.cells #[.int .u8 r2, .int .u8 r3, .slice ao (nst s) cap] 41)).alloc (.cells Tryd.zeroCells50 50)).heap[w1.heap.size + 1]? = some (.cells (mcells (Set (steps s) 0)) 50 (0, 0)) := by
      rw [Set_zero, ← HZ.out]; exact (alloc2_at w1 _ _).2
    have HMB : Hid _ := hmb
    clear hmb
    have hsz2 : (w1.alloc (.cells #[.int .u8 r2, .int .u8 r3, .slice ao (nst s) cap] 41)).heap.size = w1.heap.size + 1 := by simp
    have HS2 : Hid ((w1.alloc (.cells #[.int .u8 r2, .int .u8 r3, .slice ao (nst s) cap] 41)).heap.size = w1.heap.size + 1) := hsz2
    clear hsz2
    have HHs : Hid _ := And.intro hp2 (And.intro hL2 (And.intro hz2 hmw2))
    clear hp2 hL2 hz2 hmw2 hm2
    go_wp2_with fail
    generalize hw2 : w1.alloc (.cells #[.int .u8 r2, .int .u8 r3, .slice ao (nst s) cap] 41) = w2 at *
    clear hw2
    obtain ⟨hp2, hL2, hz2, hmw2⟩ := HHs.out
    clear HHs hL hz0 hmw
    go_loopw [25] (fun i wr => ∃ k : Nat, k ≤ nst s ∧ i = .int .i64 k ∧ wr.heap[w1.heap.size + 1]? = some (.cells (mcells (Set (steps s) k)) 50 (0, 0)) ∧ Mod (fun _ => False) w2 wr ∧ Hid (∀ j, j < k → rightB (steps s) j (stepAt s j) (g s 2) (g s 3) = true)) (fun i _ => nst s - (intOf i).toNat)
    case atStart => exact ⟨0, by omega, rfl, HMB.out, (Mod.refl _ _).alloc _, fun j hj => by omega⟩
    case round =>
      clear HMB
      obtain ⟨k, hk, rfl, hM, hmr, HN⟩ := hrel
      have hsr : w1.heap.size + 1 ≤ wr.heap.size := by have := hmr.size; rw [HS2.out] at this; exact this
      have hp := hmr.keep hp2 (fun f => f)
      have hz := hmr.keep hz2 (fun f => f)
      have hL := owns_mod hL2 hmr (fun _ _ f => f)
      by_cases hlt : k < nst s
      · have hkl : k < (steps s).length := by rw [HLen.out]; exact hlt
        have hLT : PLst wr (w.alloc (.cells #[.int .u8 0, .int .u8 0, .slice none 0 0] 41)).heap.size (.slice ao (nst s) cap) (steps s) := by unfold PLst; rw [HLen.out]; exact hL
        have hLT' := hLT
        rw [← HLen.out] at hLT'
        obtain ⟨gb, hao, a0, a1, a2, a3⟩ := hLT'.cell hkl
        subst hao
        rw [steps_at] at a0 a1 a2 a3
        clear hLT hLT'
        have HSt : Hid (Small (stepAt s k)) := stepAt_small s k
        have hst : Small (stepAt s k) := stepAt_small s k
        obtain ⟨s1, s2', s3, s4⟩ := hst
        have HF : Hid (rightB (steps s) k (stepAt s k) (g s 2) (g s 3) = stFit (Set (steps s) k) (stepAt s k) (g s 2) (g s 3)) := right_fit _ _ _ _ _ (Set_below (by omega) (fun j hj => by rw [steps_at]; exact HN.out j hj))
        rw [HR2.out, HR3.out] at HF
        have HSY : Hid ((stepAt s k).op ≤ 5 → Set (steps s) (k + 1) = fun r => if r = (stepAt s k).x then true else Set (steps s) k r) := fun h => by
          have := Set_yes hkl (by rw [steps_at]; exact h); rw [steps_at] at this; exact this
        have HSN : Hid (¬ (stepAt s k).op ≤ 5 → Set (steps s) (k + 1) = Set (steps s) k) := fun h => Set_no hkl (by rw [steps_at]; exact h)
        generalize ht : stepAt s k = t at *
        have HT : Hid (stepAt s k = t) := ht
        clear ht
        have hms := mcells_size (Set (steps s) k)
        have hfit := fun w => stepfits_any t r2 r3 (some ⟨gb, 0, none⟩) (nst s) cap (Set (steps s) k) w HSt.out l2 l3
        have HM : Hid (wr.heap[w1.heap.size + 1]? = some (.cells (mcells (Set (steps s) k)) 50 (0, 0))) := hM
        clear hM
        have hMa : (wr.alloc (.cells #[.int .u8 t.op, .int .u8 t.x, .int .u8 t.y, .int .u8 t.z] 52)).heap[w1.heap.size + 1]? = some (.cells (mcells (Set (steps s) k)) 50 (0, 0)) := ((Mod.refl (fun _ => False) wr).alloc _).keep HM.out (fun f => f)
        have HMA : Hid _ := hMa
        clear hMa
        obtain ⟨c0, c1, c2⟩ := cells3 hp
        have hpl : w1.heap.size < wr.heap.size := lt_of_block hp
        clear hsr
        generalize hbs : stFit (Set (steps s) k) t r2 r3 = bs at *
        clear hbs
        go_wp2_with (refine wpList_load_row rfl 50 _ rfl _ rfl (mcells (Set (steps s) k)) 50 (0, 0) ?hb0 _ Tryd.underlying50 rfl (marks_size hms) ?_; case hb0 => exact HMA.out)
        refine (hfit _).mono ?_
        rintro e w3 ⟨rfl, hm3⟩
        have HM3 : Hid (w3.heap[w1.heap.size + 1]? = some (.cells (mcells (Set (steps s) k)) 50 (0, 0))) := hm3.keep HMA.out (fun f => f)
        have hst3 := hm3.keep (heap_alloc_new wr (.cells #[.int .u8 t.op, .int .u8 t.x, .int .u8 t.y, .int .u8 t.z] 52)) (fun f => f)
        have hmr3 : Mod (fun _ => False) w2 w3 := (hmr.alloc _).trans hm3
        have hz3 := hmr3.keep hz2 (fun f => f)
        have hmw3 := hmw2.trans hmr3
        obtain ⟨d0, d1, d2, d3⟩ := cells4 hst3
        obtain ⟨p0, p1, p2⟩ := cells3 hz3
        have e0 := fz3 hz3 0
        have e1 := fz3 hz3 1
        have e2 := fz3 hz3 2
        have hst3l := lt_of_block hst3
        have hsx := fun w => setsx_any t.op w s1
        clear hst3 hm3 HMA HM hfit hz hL hp a0 a1 a2 a3 hmr
        cases bs with
        | false =>
          have HV : Hid (vfy s = (8, 1 + k)) := vfy_at HB.out hlt (by rw [HT.out, HR2.out, HR3.out]; exact HF.out) HN.out
          have hm4 := set3_mod hmw3 w.heap.size (.int .u8 0) (.int .u8 0) (.slice none 0 0) (Nat.le_refl _)
          have HC : Hid _ := cells3 (set3_at (x' := .int .u8 0) (y' := .int .u8 0) (z' := .slice none 0 0) hz3)
          have HE : Hid (DecEnd s w (set3 w3 w.heap.size (.int .u8 0) (.int .u8 0) (.slice none 0 0)) (.returned (.tuple #[.agg #[.int .u8 0, .int .u8 0, .slice none 0 0], .int .i64 8, .int .i64 (1 + (k : Int))]))) :=
            ⟨0, 0, none, 0, 0, by rw [HV.out]; simp, fun h => by rw [HV.out] at h; cases h⟩
          clear hz3 HF HN HSY HSN
          go_wp2_with fail
          obtain ⟨g0, g1, g2⟩ := HC.out
          unfold set3 at g0 g1 g2
          exact bodyPost_ret (v := .tuple #[.agg #[.int .u8 0, .int .u8 0, .slice none 0 0], .int .i64 8, .int .i64 (1 + (k : Int))]) (by simp [results, Tryd.results16, go_sem, g0, g1, g2]) rfl ⟨HE.out, hm4⟩
        | true =>
          have HN2 : Hid (∀ j, j < k + 1 → rightB (steps s) j (stepAt s j) (g s 2) (g s 3) = true) := fun j hj => by
            by_cases e : j = k
            · subst e; rw [HT.out, HR2.out, HR3.out]; exact HF.out
            · exact HN.out j (by omega)
          clear HN HF hz3 p0 p1 p2 e0 e1 e2
          by_cases h5 : t.op ≤ 5
          · have hS := HSY.out h5
            have HMS : Hid ((w3.setCell ⟨w1.heap.size + 1, t.x, none⟩ (.bool true)).heap[w1.heap.size + 1]? = some (.cells (mcells (Set (steps s) (k + 1))) 50 (0, 0))) := show _ = _ by
              rw [hS]; exact mset t.x true HM3.out
            have hm5 : Mod (fun _ => False) w2 (w3.setCell ⟨w1.heap.size + 1, t.x, none⟩ (.bool true)) := hmr3.setCell _ _ (fun h => absurd h (by have := HS2.out; show ¬ w1.heap.size + 1 < w2.heap.size; omega))
            have hfz := fz3 HM3.out t.x
            have hmg : w3.cell? ⟨w1.heap.size + 1, t.x, none⟩ = some (.bool (Set (steps s) k t.x)) := by
              have := mcells_at (Set (steps s) k) s2'
              simp only [World.cell?, HM3.out]; simpa using this
            have ix : (t.x : Int) < 256 := by omega
            clear hS HSY HSN
            go_wp2_with (go_at_call 23; refine (hsx _).mono ?_; rintro e w4 ⟨rfl, rfl⟩)
            go_roundw
            case rel => exact ⟨k + 1, by omega, by go_num, HMS.out, hm5, HN2⟩
            case measure => simp [intOf]; omega
          · have hS := HSN.out h5
            have HMS : Hid (w3.heap[w1.heap.size + 1]? = some (.cells (mcells (Set (steps s) (k + 1))) 50 (0, 0))) := show _ = _ by
              rw [hS]; exact HM3.out
            clear hS HSY HSN
            go_wp2_with (go_at_call 23; refine (hsx _).mono ?_; rintro e w4 ⟨rfl, rfl⟩)
            go_roundw
            case rel => exact ⟨k + 1, by omega, by go_num, HMS.out, hmr3, HN2⟩
            case measure => simp [intOf]; omega
      · have hks : k = nst s := by omega
        subst hks
        have HV : Hid (vfy s = (0, 0)) := vfy_ok HB.out HN.out
        have hmwr := hmw2.trans hmr
        have hm4 := set3_mod hmwr w.heap.size (.int .u8 r2) (.int .u8 r3) (.slice ao (nst s) cap) (Nat.le_refl _)
        have HC : Hid _ := cells3 (set3_at (x' := .int .u8 r2) (y' := .int .u8 r3) (z' := .slice ao (nst s) cap) hz)
        have hL5 := owns_base (base' := w.heap.size) (owns_mod hL (set3_own wr w.heap.size (.int .u8 r2) (.int .u8 r3) (.slice ao (nst s) cap)) (fun g h1 h2 => by simp at h1; omega)) (by simp)
        have HE : Hid (DecEnd s w (set3 wr w.heap.size (.int .u8 r2) (.int .u8 r3) (.slice ao (nst s) cap)) (.returned (.tuple #[.agg #[.int .u8 r2, .int .u8 r3, .slice ao (nst s) cap], .int .i64 0, .int .i64 0]))) :=
          ⟨r2, r3, ao, nst s, cap, by rw [HV.out]; rfl, fun _ => ⟨HR2.out.symm, HR3.out.symm, HB.out, HN.out, by unfold PLst; rw [HLen.out]; exact hL5⟩⟩
        obtain ⟨c0, c1, c2⟩ := cells3 hp
        obtain ⟨p0, p1, p2⟩ := cells3 hz
        have e0 := fz3 hz 0
        have e1 := fz3 hz 1
        have e2 := fz3 hz 2
        clear hL5 hL hM HN
        go_wp2_with fail
        obtain ⟨g0, g1, g2⟩ := HC.out
        unfold set3 at g0 g1 g2
        exact bodyPost_ret (v := .tuple #[.agg #[.int .u8 r2, .int .u8 r3, .slice ao (nst s) cap], .int .i64 0, .int .i64 0]) (by simp [results, Tryd.results16, go_sem, g0, g1, g2]) rfl ⟨HE.out, hm4⟩
end Go.Proofs.YtmnfndpbblpjiaaDoor

/- Codes: plain functions: which steps are needed. -/
namespace Go.Proofs.YtmnfndpbblpjiaaDoor.Pu

def mark1 (l : List Stp) (k : Nat) (nd : List Bool) (r : Nat) : List Bool := if 0 ≤ setterI l r k then nd.set (setterI l r k).toNat true else nd
def marks (l : List Stp) (k : Nat) (rs : List Nat) (nd : List Bool) : List Bool := rs.foldl (mark1 l k) nd
def isN (l : List Stp) (k : Nat) (nd : List Bool) : Bool := nd[k]?.getD false || decide (6 ≤ (l[k]?.getD ⟨0, 0, 0, 0⟩).op)
def needStep (l : List Stp) (k : Nat) (nd : List Bool) : List Bool :=
  if isN l k nd then marks l k (readsOf (l[k]?.getD ⟨0, 0, 0, 0⟩)) (nd.set k true) else nd
def needFrom (l : List Stp) : Nat → List Bool → List Bool
  | 0, nd => nd
  | k + 1, nd => needFrom l k (needStep l k nd)
def neededL (l : List Stp) : List Bool := needFrom l l.length (List.replicate l.length false)
theorem mark1_len (l : List Stp) (k : Nat) (nd : List Bool) (r : Nat) : (mark1 l k nd r).length = nd.length := by unfold mark1; split <;> simp
theorem marks_len (l : List Stp) (k : Nat) (rs : List Nat) (nd : List Bool) : (marks l k rs nd).length = nd.length := by
  induction rs generalizing nd with
  | nil => rfl
  | cons r rs ih => show (marks l k rs (mark1 l k nd r)).length = _; rw [ih, mark1_len]
theorem needStep_len (l : List Stp) (k : Nat) (nd : List Bool) : (needStep l k nd).length = nd.length := by
  unfold needStep; split
  · rw [marks_len]; simp
  · rfl
theorem needFrom_len (l : List Stp) (k : Nat) (nd : List Bool) : (needFrom l k nd).length = nd.length := by
  induction k generalizing nd with
  | zero => rfl
  | succ k ih => show (needFrom l k (needStep l k nd)).length = _; rw [ih, needStep_len]
theorem neededL_len (l : List Stp) : (neededL l).length = l.length := by unfold neededL; rw [needFrom_len]; simp
theorem marks_take (l : List Stp) (k : Nat) (rs : List Nat) (nd : List Bool) (j : Nat) (hj : j < rs.length) : marks l k (rs.take (j + 1)) nd = mark1 l k (marks l k (rs.take j) nd) rs[j] := by
  unfold marks
  rw [List.take_succ_eq_append_getElem hj, List.foldl_append]
  rfl
theorem isN_at {l : List Stp} {k : Nat} {nd : List Bool} (hk : k < l.length) (hn : k < nd.length) : isN l k nd = (nd[k] || decide (6 ≤ l[k].op)) := by simp [isN, hk, hn]
theorem needStep_yes {l : List Stp} {k : Nat} {nd : List Bool} (hk : k < l.length) (h : isN l k nd = true) : needStep l k nd = marks l k (readsOf l[k]) (nd.set k true) := by simp [needStep, h, hk]
theorem needStep_no {l : List Stp} {k : Nat} {nd : List Bool} (h : isN l k nd = false) : needStep l k nd = nd := by simp [needStep, h]

/-- The steps that are kept, ahead of step k, and how many they are. -/
def bodyTo (s : ByteArray) (nd : List Bool) : Nat → ByteArray
  | 0 => ⟨#[]⟩
  | k + 1 => if nd[k]?.getD false then bodyTo s nd k ++ s.extract (6 + 4 * k) (10 + 4 * k) else bodyTo s nd k
def cntTo (nd : List Bool) : Nat → Nat
  | 0 => 0
  | k + 1 => if nd[k]?.getD false then cntTo nd k + 1 else cntTo nd k
theorem cntTo_le (nd : List Bool) (k : Nat) : cntTo nd k ≤ k := by
  induction k with
  | zero => simp [cntTo]
  | succ k ih => simp only [cntTo]; split <;> omega
theorem bodyTo_yes {s : ByteArray} {nd : List Bool} {k : Nat} (h : k < nd.length) (hb : nd[k] = true) : bodyTo s nd (k + 1) = bodyTo s nd k ++ s.extract (6 + 4 * k) (10 + 4 * k) := by simp [bodyTo, h, hb]
theorem bodyTo_no {s : ByteArray} {nd : List Bool} {k : Nat} (h : k < nd.length) (hb : nd[k] = false) : bodyTo s nd (k + 1) = bodyTo s nd k := by simp [bodyTo, h, hb]
theorem cntTo_yes {nd : List Bool} {k : Nat} (h : k < nd.length) (hb : nd[k] = true) : cntTo nd (k + 1) = cntTo nd k + 1 := by simp [cntTo, h, hb]
theorem cntTo_no {nd : List Bool} {k : Nat} (h : k < nd.length) (hb : nd[k] = false) : cntTo nd (k + 1) = cntTo nd k := by simp [cntTo, h, hb]
theorem bodyTo_size (s : ByteArray) (nd : List Bool) (k : Nat) : (bodyTo s nd k).size ≤ 4 * k := by
  induction k with
  | zero => simp [bodyTo, ByteArray.size]
  | succ k ih =>
    simp only [bodyTo]; split
    · rw [ByteArray.size_append, ByteArray.size_extract]; omega
    · omega
/-- What Shrink answers of a right code. -/
def shr (s : ByteArray) : ByteArray :=
  s.extract 0 4 ++ ⟨#[UInt8.ofNat (cntTo (neededL (steps s)) (nst s) % 256), UInt8.ofNat (cntTo (neededL (steps s)) (nst s) / 256)]⟩ ++ bodyTo s (neededL (steps s)) (nst s)

end Go.Proofs.YtmnfndpbblpjiaaDoor.Pu

/- Codes: what is wanted ahead of a step, against who set it. -/
namespace Go.Proofs.YtmnfndpbblpjiaaDoor.Pu

def upd (r : Nat) (b : Bool) (W : Nat → Bool) : Nat → Bool := fun i => if i = r then b else W i
def wAhead (t : Stp) (W : Nat → Bool) : Nat → Bool :=
  if rz t.op then upd t.z true (if ry t.op then upd t.y true (upd t.x (!decide (t.op ≤ 5)) W) else upd t.x (!decide (t.op ≤ 5)) W)
  else (if ry t.op then upd t.y true (upd t.x (!decide (t.op ≤ 5)) W) else upd t.x (!decide (t.op ≤ 5)) W)
def pN (t : Stp) (W : Nat → Bool) : Bool := !decide (t.op ≤ 5) || W t.x
theorem wAhead_iff (t : Stp) (W : Nat → Bool) (r : Nat) : wAhead t W r = true ↔ r ∈ readsOf t ∨ (W r = true ∧ ¬ (t.op ≤ 5 ∧ r = t.x)) := by
  obtain ⟨op, x, y, z⟩ := t
  unfold wAhead upd readsOf ry rz
  have h : op = 0 ∨ op = 1 ∨ op = 2 ∨ op = 3 ∨ op = 4 ∨ op = 5 ∨ 5 < op := by omega
  rcases h with rfl | rfl | rfl | rfl | rfl | rfl | h
  · by_cases c : r = x <;> simp [c]
  · by_cases c : r = x <;> simp [c]
  · by_cases a : r = z <;> by_cases b : r = y <;> by_cases c : r = x <;> simp [a, b, c] <;> simp_all
  · by_cases a : r = z <;> by_cases b : r = y <;> by_cases c : r = x <;> simp [a, b, c] <;> simp_all
  · by_cases a : r = z <;> by_cases b : r = y <;> by_cases c : r = x <;> simp [a, b, c] <;> simp_all
  · by_cases b : r = y <;> by_cases c : r = x <;> simp [b, c] <;> simp_all
  · by_cases c : r = x <;> simp [c, show ¬ op = 2 by omega, show ¬ op = 3 by omega, show ¬ op = 4 by omega, show ¬ op = 5 by omega, show ¬ op ≤ 5 by omega, show ¬ op ≤ 4 by omega, show 6 ≤ op by omega]
theorem mark1_get (l : List Stp) (k : Nat) (nd : List Bool) (r j : Nat) : (mark1 l k nd r)[j]? = some true ↔ nd[j]? = some true ∨ (j < nd.length ∧ setterI l r k = (j : Int)) := by
  unfold mark1
  by_cases h : 0 ≤ setterI l r k
  · rw [if_pos h, List.getElem?_set]
    by_cases e : (setterI l r k).toNat = j
    · have : setterI l r k = (j : Int) := by omega
      rw [if_pos e]
      by_cases hl : j < nd.length
      · simp [hl, this]
      · simp [e, hl]
    · have : setterI l r k ≠ (j : Int) := by omega
      rw [if_neg e]
      simp [this]
  · rw [if_neg h]
    have : setterI l r k ≠ (j : Int) := by omega
    simp [this]
theorem marks_get (l : List Stp) (k : Nat) (rs : List Nat) (nd : List Bool) (j : Nat) : (marks l k rs nd)[j]? = some true ↔ nd[j]? = some true ∨ (j < nd.length ∧ ∃ r ∈ rs, setterI l r k = (j : Int)) := by
  induction rs generalizing nd with
  | nil => simp [marks]
  | cons r rs ih =>
    show (marks l k rs (mark1 l k nd r))[j]? = some true ↔ _
    rw [ih, mark1_get, mark1_len]
    constructor
    · rintro ((h | ⟨h1, h2⟩) | ⟨h1, r', h2, h3⟩)
      · exact .inl h
      · exact .inr ⟨h1, r, by simp, h2⟩
      · exact .inr ⟨h1, r', by simp [h2], h3⟩
    · rintro (h | ⟨h1, r', h2, h3⟩)
      · exact .inl (.inl h)
      · rcases List.mem_cons.1 h2 with rfl | h2
        · exact .inl (.inr ⟨h1, h3⟩)
        · exact .inr ⟨h1, r', h2, h3⟩
theorem mark1_keep (l : List Stp) (k : Nat) (nd : List Bool) (r j : Nat) (hj : k ≤ j) : (mark1 l k nd r)[j]? = nd[j]? := by
  unfold mark1
  have := setterI_lt l r k
  split
  · rw [List.getElem?_set, if_neg (by omega)]
  · rfl
theorem marks_keep (l : List Stp) (k : Nat) (rs : List Nat) (nd : List Bool) (j : Nat) (hj : k ≤ j) : (marks l k rs nd)[j]? = nd[j]? := by
  induction rs generalizing nd with
  | nil => rfl
  | cons r rs ih => show (marks l k rs (mark1 l k nd r))[j]? = _; rw [ih, mark1_keep _ _ _ _ _ hj]
theorem needStep_keep (l : List Stp) (k : Nat) (nd : List Bool) (j : Nat) (hj : k < j) : (needStep l k nd)[j]? = nd[j]? := by
  unfold needStep
  split
  · rw [marks_keep _ _ _ _ _ (by omega), List.getElem?_set, if_neg (by omega)]
  · rfl
theorem needFrom_keep (l : List Stp) (k : Nat) (nd : List Bool) (j : Nat) (hj : k ≤ j) : (needFrom l k nd)[j]? = nd[j]? := by
  induction k generalizing nd with
  | zero => rfl
  | succ k ih => show (needFrom l k (needStep l k nd))[j]? = _; rw [ih _ (by omega), needStep_keep _ _ _ _ (by omega)]
/-- Having come down to step k. -/
structure NInv (l : List Stp) (k : Nat) (nd : List Bool) (W : Nat → Bool) : Prop where
  len : nd.length = l.length
  ahead : ∀ j, j < k → (nd[j]? = some true ↔ ∃ r, W r = true ∧ setterI l r k = (j : Int))
  fin : needFrom l k nd = neededL l
theorem NInv.start (l : List Stp) : NInv l l.length (List.replicate l.length false) (fun _ => false) :=
  ⟨by simp, fun j hj => by simp [hj], rfl⟩
theorem NInv.isn {l : List Stp} {k : Nat} {nd : List Bool} {W : Nat → Bool} (h : NInv l (k + 1) nd W) (hk : k < l.length) : isN l k nd = pN l[k] W := by
  rw [isN_at hk (by rw [h.len]; exact hk)]
  have ha := h.ahead k (by omega)
  rw [List.getElem?_eq_getElem (by rw [h.len]; exact hk)] at ha
  unfold pN
  by_cases h5 : l[k].op ≤ 5
  · simp only [h5, decide_true, Bool.not_true, Bool.false_or, show ¬ 6 ≤ l[k].op by omega, decide_false, Bool.or_false]
    rw [Bool.eq_iff_iff]
    constructor
    · intro hn
      obtain ⟨r, h1, h2⟩ := ha.1 (by rw [hn])
      by_cases e : l[k].x = r
      · rw [e]; exact h1
      · rw [setterI_miss hk (fun h => e h.2)] at h2
        have := setterI_lt l r k
        omega
    · intro hw
      have := ha.2 ⟨l[k].x, hw, setterI_hit hk ⟨h5, rfl⟩⟩
      simpa using this
  · simp [h5, show 6 ≤ l[k].op by omega]
theorem NInv.val {l : List Stp} {k : Nat} {nd : List Bool} {W : Nat → Bool} (h : NInv l (k + 1) nd W) (hk : k < l.length) : (neededL l)[k]? = some (pN l[k] W) := by
  have hi := h.isn hk
  rw [← h.fin]
  show (needFrom l k (needStep l k nd))[k]? = _
  rw [needFrom_keep _ _ _ _ (Nat.le_refl k)]
  have hl : k < nd.length := by rw [h.len]; exact hk
  cases hp : isN l k nd with
  | true =>
    rw [needStep_yes hk hp, marks_keep _ _ _ _ _ (Nat.le_refl k), ← hi, hp]
    simp [hl]
  | false =>
    rw [needStep_no hp, ← hi, hp]
    rw [isN_at hk hl] at hp
    simp at hp
    simp [hl, hp.1]
theorem NInv.yes {l : List Stp} {k : Nat} {nd : List Bool} {W : Nat → Bool} (h : NInv l (k + 1) nd W) (hk : k < l.length) (hp : pN l[k] W = true) : NInv l k (needStep l k nd) (wAhead l[k] W) := by
  have hi := h.isn hk
  rw [hp] at hi
  refine ⟨by rw [needStep_len]; exact h.len, fun j hj => ?_, h.fin⟩
  rw [needStep_yes hk hi, marks_get, List.getElem?_set, if_neg (by omega), h.ahead j (by omega)]
  have hl : j < (nd.set k true).length := by simp; rw [h.len]; omega
  constructor
  · rintro (⟨r, h1, h2⟩ | ⟨_, r, h1, h2⟩)
    · by_cases e : l[k].op ≤ 5 ∧ l[k].x = r
      · rw [setterI_hit hk e] at h2; omega
      · rw [setterI_miss hk e] at h2
        exact ⟨r, (wAhead_iff _ _ _).2 (.inr ⟨h1, fun h => e ⟨h.1, h.2.symm⟩⟩), h2⟩
    · exact ⟨r, (wAhead_iff _ _ _).2 (.inl h1), h2⟩
  · rintro ⟨r, h1, h2⟩
    rcases (wAhead_iff _ _ _).1 h1 with h1 | ⟨h1, h3⟩
    · exact .inr ⟨hl, r, h1, h2⟩
    · exact .inl ⟨r, h1, by rw [setterI_miss hk (fun h => h3 ⟨h.1, h.2.symm⟩)]; exact h2⟩
theorem NInv.no {l : List Stp} {k : Nat} {nd : List Bool} {W : Nat → Bool} (h : NInv l (k + 1) nd W) (hk : k < l.length) (hp : pN l[k] W = false) : NInv l k (needStep l k nd) W := by
  have hi := h.isn hk
  rw [hp] at hi
  simp [pN] at hp
  refine ⟨by rw [needStep_len]; exact h.len, fun j hj => ?_, h.fin⟩
  rw [needStep_no hi, h.ahead j (by omega)]
  have hr : ∀ r, W r = true → setterI l r (k + 1) = setterI l r k := fun r hr => setterI_miss hk (fun h => by rw [h.2] at hp; simp [hr] at hp)
  constructor
  · rintro ⟨r, h1, h2⟩; exact ⟨r, h1, by rw [← hr r h1]; exact h2⟩
  · rintro ⟨r, h1, h2⟩; exact ⟨r, h1, by rw [hr r h1]; exact h2⟩
/-- What the program has told of the steps, having come down to k. -/
def toldTo (l : List Stp) (k : Nat) : List Bool := List.replicate k false ++ (neededL l).drop k
theorem toldTo_len (l : List Stp) (k : Nat) (hk : k ≤ l.length) : (toldTo l k).length = l.length := by simp [toldTo, neededL_len]; omega
theorem toldTo_start (l : List Stp) : toldTo l l.length = List.replicate l.length false := by
  unfold toldTo; rw [List.drop_of_length_le (by rw [neededL_len]; exact Nat.le_refl _)]; simp
theorem toldTo_zero (l : List Stp) : toldTo l 0 = neededL l := by simp [toldTo]
theorem toldTo_step {l : List Stp} {k : Nat} {b : Bool} (_hk : k < l.length) (h : (neededL l)[k]? = some b) : (toldTo l (k + 1)).set k b = toldTo l k := by
  apply List.ext_getElem?
  intro j
  have hn : (neededL l).length = l.length := neededL_len l
  unfold toldTo
  rw [List.getElem?_set]
  by_cases e : k = j
  · subst e
    rw [if_pos rfl]
    simp [List.getElem?_append, h]; omega
  · rw [if_neg e]
    by_cases hj : j < k
    · simp [List.getElem?_append, hj, show j < k + 1 by omega]
    · simp [List.getElem?_append, hj, show ¬ j < k + 1 by omega]
      congr 1
      omega
end Go.Proofs.YtmnfndpbblpjiaaDoor.Pu
