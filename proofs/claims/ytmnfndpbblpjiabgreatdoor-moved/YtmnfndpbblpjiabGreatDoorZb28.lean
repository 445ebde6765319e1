/- The program's Add, Sub, Mul. -/
import Derived.BigRegion
import Derived.Test.YtmnfndpbblpjiabGreatDoorZb27
import Derived.Test.YtmnfndpbblpjiabGreatDoorZb03
import Derived.Test.YtmnfndpbblpjiabGreatDoorZb04
namespace Go.Proofs.YtmnfndpbblpjiabGreatDoor
open Go.RowKit Pu

theorem Pu.num9_not (nb : Bool) (l : List Nat) : num9 (!nb) l = -num9 nb l := by cases nb <;> simp [num9]

set_option maxHeartbeats 800000 in
set_option maxRecDepth 4000 in
theorem add9_any (nb nc : Bool) (v u : Value) (l m : List Nat) (w : World) (hN : N9 w nb v l) (hU : N9 w nc u m) (ll : l.length ≤ 40000) (lm : m.length ≤ 40000) :
    Calls Tryz.prog 193 #[n9 nb v, n9 nc u] w (N9E w (num9 nb l + num9 nc m) (max l.length m.length + 1)) := by
  obtain ⟨vo, vcap, rfl, -⟩ := owns_form hN.2
  obtain ⟨uo, ucap, rfl, -⟩ := owns_form hU.2
  obtain ⟨a1, a2, a3⟩ := alloc3_at w (.cells #[.bool nb, .slice vo l.length vcap] 141) (.cells #[.bool nc, .slice uo m.length ucap] 141) (.cells #[.bool false, .slice none 0 0] 141)
  have hm0 : Mod (fun _ => False) w (((w.alloc (.cells #[.bool nb, .slice vo l.length vcap] 141)).alloc (.cells #[.bool nc, .slice uo m.length ucap] 141)).alloc (.cells #[.bool false, .slice none 0 0] 141)) := (((Mod.refl _ w).alloc _).alloc _).alloc _
  have hs := sum_any nb nc (.slice vo l.length vcap) (.slice uo m.length ucap) l m _ (hN.mod hm0) (hU.mod hm0).2 hU.1.1 hU.1.2.1 ll lm
  have HT : Hid (num9 nb l + num9 nc m = num9 nb l + num9 nc m) := show _ = _ by rfl
  rw [HT.out] at hs
  generalize num9 nb l + num9 nc m = tot at *
  generalize max l.length m.length + 1 = mx at *
  have HH : Hid _ := And.intro a3 hm0
  clear a1 a2 a3 hm0 hN hU HT
  go_enter Tryz.func193, Tryz.ntmps193
  go_wp2_with fail
  refine hs.mono ?_
  rintro e w3 ⟨hm3, nb3, v3, l3, rfl, hN3, hx3, hl3⟩
  obtain ⟨hR0, hm0⟩ := HH.out
  have hR3 := hm3.keep hR0 (fun f => f)
  obtain ⟨r0, r1⟩ := c2_of hR3
  have f0 := fz3 hR3 0
  have f1 := fz3 hR3 1
  obtain ⟨vo3, vcap3, rfl, -⟩ := owns_form hN3.2
  have HE : Hid _ := n9_end (x := tot) (n := mx) hR3 (by omega) (hm0.trans hm3) hN3.2 hN3.1 hx3 hl3
  clear hR3 hm3 hN3 hx3 hs hR0 hm0 HH
  go_wp2_with fail
  obtain ⟨k1, q0, q1⟩ := HE.out
  unfold set2at at q0 q1
  exact bodyPost_ret (by simp [results, Tryz.results193, go_sem, q0, q1]) rfl k1

set_option maxHeartbeats 800000 in
set_option maxRecDepth 4000 in
theorem sub9_any (nb nc : Bool) (v u : Value) (l m : List Nat) (w : World) (hN : N9 w nb v l) (hU : N9 w nc u m) (ll : l.length ≤ 40000) (lm : m.length ≤ 40000) :
    Calls Tryz.prog 194 #[n9 nb v, n9 nc u] w (N9E w (num9 nb l - num9 nc m) (max l.length m.length + 1)) := by
  obtain ⟨vo, vcap, rfl, -⟩ := owns_form hN.2
  obtain ⟨uo, ucap, rfl, -⟩ := owns_form hU.2
  obtain ⟨a1, a2, a3⟩ := alloc3_at w (.cells #[.bool nb, .slice vo l.length vcap] 141) (.cells #[.bool nc, .slice uo m.length ucap] 141) (.cells #[.bool false, .slice none 0 0] 141)
  have hm0 : Mod (fun _ => False) w (((w.alloc (.cells #[.bool nb, .slice vo l.length vcap] 141)).alloc (.cells #[.bool nc, .slice uo m.length ucap] 141)).alloc (.cells #[.bool false, .slice none 0 0] 141)) := (((Mod.refl _ w).alloc _).alloc _).alloc _
  have hs := sum_any nb (!nc) (.slice vo l.length vcap) (.slice uo m.length ucap) l m _ (hN.mod hm0) (hU.mod hm0).2 hU.1.1 hU.1.2.1 ll lm
  have HT : Hid (num9 nb l + num9 (!nc) m = num9 nb l - num9 nc m) := show _ = _ by rw [num9_not]; omega
  rw [HT.out] at hs
  generalize num9 nb l - num9 nc m = tot at *
  generalize max l.length m.length + 1 = mx at *
  have HH : Hid _ := And.intro a3 hm0
  clear a1 a2 a3 hm0 hN hU HT
  go_enter Tryz.func194, Tryz.ntmps194
  go_wp2_with fail
  refine hs.mono ?_
  rintro e w3 ⟨hm3, nb3, v3, l3, rfl, hN3, hx3, hl3⟩
  obtain ⟨hR0, hm0⟩ := HH.out
  have hR3 := hm3.keep hR0 (fun f => f)
  obtain ⟨r0, r1⟩ := c2_of hR3
  have f0 := fz3 hR3 0
  have f1 := fz3 hR3 1
  obtain ⟨vo3, vcap3, rfl, -⟩ := owns_form hN3.2
  have HE : Hid _ := n9_end (x := tot) (n := mx) hR3 (by omega) (hm0.trans hm3) hN3.2 hN3.1 hx3 hl3
  clear hR3 hm3 hN3 hx3 hs hR0 hm0 HH
  go_wp2_with fail
  obtain ⟨k1, q0, q1⟩ := HE.out
  unfold set2at at q0 q1
  exact bodyPost_ret (by simp [results, Tryz.results194, go_sem, q0, q1]) rfl k1

set_option maxHeartbeats 1600000 in
set_option maxRecDepth 4000 in
theorem mul9_any (nb nc : Bool) (v u : Value) (l m : List Nat) (w : World) (hN : N9 w nb v l) (hU : N9 w nc u m) (ll : l.length ≤ 40000) (lm : m.length ≤ 40000) :
    Calls Tryz.prog 195 #[n9 nb v, n9 nc u] w (N9E w (num9 nb l * num9 nc m) (l.length + m.length)) := by
  obtain ⟨vo, vcap, rfl, -⟩ := owns_form hN.2
  obtain ⟨uo, ucap, rfl, -⟩ := owns_form hU.2
  obtain ⟨a1, a2, a3⟩ := alloc3_at w (.cells #[.bool nb, .slice vo l.length vcap] 141) (.cells #[.bool nc, .slice uo m.length ucap] 141) (.cells #[.bool false, .slice none 0 0] 141)
  have hm0 : Mod (fun _ => False) w (((w.alloc (.cells #[.bool nb, .slice vo l.length vcap] 141)).alloc (.cells #[.bool nc, .slice uo m.length ucap] 141)).alloc (.cells #[.bool false, .slice none 0 0] 141)) := (((Mod.refl _ w).alloc _).alloc _).alloc _
  have HS : Hid (∀ k : List Nat, v9 k = v9 l * v9 m → num9 (nb != nc) k = num9 nb l * num9 nc m) := fun k h => num9_mul h
  generalize num9 nb l * num9 nc m = tot at *
  have HH : Hid _ := And.intro a1 (And.intro a2 (And.intro a3 hm0))
  clear a1 a2 a3 hm0
  go_enter Tryz.func195, Tryz.ntmps195
  go_wp2_with fail
  generalize ((w.alloc (.cells #[.bool nb, .slice vo l.length vcap] 141)).alloc (.cells #[.bool nc, .slice uo m.length ucap] 141)).alloc (.cells #[.bool false, .slice none 0 0] 141) = W at *
  obtain ⟨a1, a2, hR0, hm0⟩ := HH.out
  obtain ⟨g0, g1⟩ := c2_of a1
  obtain ⟨h0, h1⟩ := c2_of a2
  have hp := product_any (.slice vo l.length vcap) (.slice uo m.length ucap) l m 0 0 W.drew (owns_mod hN.2 hm0.drew (fun _ _ f => f)) (owns_mod hU.2 hm0.drew (fun _ _ f => f)) hN.1.1 hU.1.1 ll lm
  clear HH a1 a2 hN hU
  cases nb
  · cases nc
    · go_region_held3 (fun w' => w'.cell? ⟨w.heap.size, 0, none⟩ = some (.bool false) ∧ w'.cell? ⟨w.heap.size, 1, none⟩ = some (.slice vo l.length vcap) ∧ w'.cell? ⟨w.heap.size + 1, 0, none⟩ = some (.bool false) ∧ w'.cell? ⟨w.heap.size + 1, 1, none⟩ = some (.slice uo m.length ucap))
        (first | go_keep | (exact hkeep) | (exact hkeep2))
        (first
          | (go_at_call 201; refine hp.mono ?_; rintro e w2 ⟨hm2, v2, l2, rfl, hO2, hd2, ht2, hv2, hl2⟩; have hkeep := And.intro (hm2.cell (a := W.drew) g0) (And.intro (hm2.cell (a := W.drew) g1) (And.intro (hm2.cell (a := W.drew) h0) (hm2.cell (a := W.drew) h1))))
          | (go_at_call 200; refine (signed_any false v2 l2 _ w2 hO2 hd2 ht2 (by omega)).mono ?_; rintro e w3 ⟨hm3, nb3, v3, l3, rfl, hN3, hx3, hl3⟩; have hkeep := And.intro (hm3.cell (hm2.cell (a := W.drew) g0)) (And.intro (hm3.cell (hm2.cell (a := W.drew) g1)) (And.intro (hm3.cell (hm2.cell (a := W.drew) h0)) (hm3.cell (hm2.cell (a := W.drew) h1)))); have hR3 := hm3.keep (hm2.keep (a := W.drew) hR0 (fun f => f)) (fun f => f); obtain ⟨r0, r1⟩ := c2_of hR3; have f0 := fz3 hR3 0; have f1 := fz3 hR3 1; obtain ⟨vo3, vcap3, rfl, -⟩ := owns_form hN3.2; have hkeep2 := And.intro ((set2_cell (w.heap.size + 2) w3 (.bool nb3) (.slice vo3 l3.length vcap3) w.heap.size 0 (by omega)).trans hkeep.1) (And.intro ((set2_cell (w.heap.size + 2) w3 (.bool nb3) (.slice vo3 l3.length vcap3) w.heap.size 1 (by omega)).trans hkeep.2.1) (And.intro ((set2_cell (w.heap.size + 2) w3 (.bool nb3) (.slice vo3 l3.length vcap3) (w.heap.size + 1) 0 (by omega)).trans hkeep.2.2.1) ((set2_cell (w.heap.size + 2) w3 (.bool nb3) (.slice vo3 l3.length vcap3) (w.heap.size + 1) 1 (by omega)).trans hkeep.2.2.2)))))
      have HE : Hid _ := n9_end (x := tot) (n := l.length + m.length) hR3 (by omega) ((hm0.drew.trans hm2).trans hm3) hN3.2 hN3.1 (hx3.trans (HS.out l2 hv2)) (by omega)
      clear hR3 hm3 hN3 hx3 hR0 hm0 hm2 hO2 hd2 ht2 hv2
      go_wp2_with fail
      obtain ⟨k1, q0, q1⟩ := HE.out
      unfold set2at at q0 q1
      exact bodyPost_ret (by simp [results, Tryz.results195, go_sem, q0, q1]) rfl k1
    · go_region_held3 (fun w' => w'.cell? ⟨w.heap.size, 0, none⟩ = some (.bool false) ∧ w'.cell? ⟨w.heap.size, 1, none⟩ = some (.slice vo l.length vcap) ∧ w'.cell? ⟨w.heap.size + 1, 0, none⟩ = some (.bool true) ∧ w'.cell? ⟨w.heap.size + 1, 1, none⟩ = some (.slice uo m.length ucap))
        (first | go_keep | (exact hkeep) | (exact hkeep2))
        (first
          | (go_at_call 201; refine hp.mono ?_; rintro e w2 ⟨hm2, v2, l2, rfl, hO2, hd2, ht2, hv2, hl2⟩; have hkeep := And.intro (hm2.cell (a := W.drew) g0) (And.intro (hm2.cell (a := W.drew) g1) (And.intro (hm2.cell (a := W.drew) h0) (hm2.cell (a := W.drew) h1))))
          | (go_at_call 200; refine (signed_any true v2 l2 _ w2 hO2 hd2 ht2 (by omega)).mono ?_; rintro e w3 ⟨hm3, nb3, v3, l3, rfl, hN3, hx3, hl3⟩; have hkeep := And.intro (hm3.cell (hm2.cell (a := W.drew) g0)) (And.intro (hm3.cell (hm2.cell (a := W.drew) g1)) (And.intro (hm3.cell (hm2.cell (a := W.drew) h0)) (hm3.cell (hm2.cell (a := W.drew) h1)))); have hR3 := hm3.keep (hm2.keep (a := W.drew) hR0 (fun f => f)) (fun f => f); obtain ⟨r0, r1⟩ := c2_of hR3; have f0 := fz3 hR3 0; have f1 := fz3 hR3 1; obtain ⟨vo3, vcap3, rfl, -⟩ := owns_form hN3.2; have hkeep2 := And.intro ((set2_cell (w.heap.size + 2) w3 (.bool nb3) (.slice vo3 l3.length vcap3) w.heap.size 0 (by omega)).trans hkeep.1) (And.intro ((set2_cell (w.heap.size + 2) w3 (.bool nb3) (.slice vo3 l3.length vcap3) w.heap.size 1 (by omega)).trans hkeep.2.1) (And.intro ((set2_cell (w.heap.size + 2) w3 (.bool nb3) (.slice vo3 l3.length vcap3) (w.heap.size + 1) 0 (by omega)).trans hkeep.2.2.1) ((set2_cell (w.heap.size + 2) w3 (.bool nb3) (.slice vo3 l3.length vcap3) (w.heap.size + 1) 1 (by omega)).trans hkeep.2.2.2)))))
      have HE : Hid _ := n9_end (x := tot) (n := l.length + m.length) hR3 (by omega) ((hm0.drew.trans hm2).trans hm3) hN3.2 hN3.1 (hx3.trans (HS.out l2 hv2)) (by omega)
      clear hR3 hm3 hN3 hx3 hR0 hm0 hm2 hO2 hd2 ht2 hv2
      go_wp2_with fail
      obtain ⟨k1, q0, q1⟩ := HE.out
      unfold set2at at q0 q1
      exact bodyPost_ret (by simp [results, Tryz.results195, go_sem, q0, q1]) rfl k1
  · cases nc
    · go_region_held3 (fun w' => w'.cell? ⟨w.heap.size, 0, none⟩ = some (.bool true) ∧ w'.cell? ⟨w.heap.size, 1, none⟩ = some (.slice vo l.length vcap) ∧ w'.cell? ⟨w.heap.size + 1, 0, none⟩ = some (.bool false) ∧ w'.cell? ⟨w.heap.size + 1, 1, none⟩ = some (.slice uo m.length ucap))
        (first | go_keep | (exact hkeep) | (exact hkeep2))
        (first
          | (go_at_call 201; refine hp.mono ?_; rintro e w2 ⟨hm2, v2, l2, rfl, hO2, hd2, ht2, hv2, hl2⟩; have hkeep := And.intro (hm2.cell (a := W.drew) g0) (And.intro (hm2.cell (a := W.drew) g1) (And.intro (hm2.cell (a := W.drew) h0) (hm2.cell (a := W.drew) h1))))
          | (go_at_call 200; refine (signed_any true v2 l2 _ w2 hO2 hd2 ht2 (by omega)).mono ?_; rintro e w3 ⟨hm3, nb3, v3, l3, rfl, hN3, hx3, hl3⟩; have hkeep := And.intro (hm3.cell (hm2.cell (a := W.drew) g0)) (And.intro (hm3.cell (hm2.cell (a := W.drew) g1)) (And.intro (hm3.cell (hm2.cell (a := W.drew) h0)) (hm3.cell (hm2.cell (a := W.drew) h1)))); have hR3 := hm3.keep (hm2.keep (a := W.drew) hR0 (fun f => f)) (fun f => f); obtain ⟨r0, r1⟩ := c2_of hR3; have f0 := fz3 hR3 0; have f1 := fz3 hR3 1; obtain ⟨vo3, vcap3, rfl, -⟩ := owns_form hN3.2; have hkeep2 := And.intro ((set2_cell (w.heap.size + 2) w3 (.bool nb3) (.slice vo3 l3.length vcap3) w.heap.size 0 (by omega)).trans hkeep.1) (And.intro ((set2_cell (w.heap.size + 2) w3 (.bool nb3) (.slice vo3 l3.length vcap3) w.heap.size 1 (by omega)).trans hkeep.2.1) (And.intro ((set2_cell (w.heap.size + 2) w3 (.bool nb3) (.slice vo3 l3.length vcap3) (w.heap.size + 1) 0 (by omega)).trans hkeep.2.2.1) ((set2_cell (w.heap.size + 2) w3 (.bool nb3) (.slice vo3 l3.length vcap3) (w.heap.size + 1) 1 (by omega)).trans hkeep.2.2.2)))))
      have HE : Hid _ := n9_end (x := tot) (n := l.length + m.length) hR3 (by omega) ((hm0.drew.trans hm2).trans hm3) hN3.2 hN3.1 (hx3.trans (HS.out l2 hv2)) (by omega)
      clear hR3 hm3 hN3 hx3 hR0 hm0 hm2 hO2 hd2 ht2 hv2
      go_wp2_with fail
      obtain ⟨k1, q0, q1⟩ := HE.out
      unfold set2at at q0 q1
      exact bodyPost_ret (by simp [results, Tryz.results195, go_sem, q0, q1]) rfl k1
    · go_region_held3 (fun w' => w'.cell? ⟨w.heap.size, 0, none⟩ = some (.bool true) ∧ w'.cell? ⟨w.heap.size, 1, none⟩ = some (.slice vo l.length vcap) ∧ w'.cell? ⟨w.heap.size + 1, 0, none⟩ = some (.bool true) ∧ w'.cell? ⟨w.heap.size + 1, 1, none⟩ = some (.slice uo m.length ucap))
        (first | go_keep | (exact hkeep) | (exact hkeep2))
        (first
          | (go_at_call 201; refine hp.mono ?_; rintro e w2 ⟨hm2, v2, l2, rfl, hO2, hd2, ht2, hv2, hl2⟩; have hkeep := And.intro (hm2.cell (a := W.drew) g0) (And.intro (hm2.cell (a := W.drew) g1) (And.intro (hm2.cell (a := W.drew) h0) (hm2.cell (a := W.drew) h1))))
          | (go_at_call 200; refine (signed_any false v2 l2 _ w2 hO2 hd2 ht2 (by omega)).mono ?_; rintro e w3 ⟨hm3, nb3, v3, l3, rfl, hN3, hx3, hl3⟩; have hkeep := And.intro (hm3.cell (hm2.cell (a := W.drew) g0)) (And.intro (hm3.cell (hm2.cell (a := W.drew) g1)) (And.intro (hm3.cell (hm2.cell (a := W.drew) h0)) (hm3.cell (hm2.cell (a := W.drew) h1)))); have hR3 := hm3.keep (hm2.keep (a := W.drew) hR0 (fun f => f)) (fun f => f); obtain ⟨r0, r1⟩ := c2_of hR3; have f0 := fz3 hR3 0; have f1 := fz3 hR3 1; obtain ⟨vo3, vcap3, rfl, -⟩ := owns_form hN3.2; have hkeep2 := And.intro ((set2_cell (w.heap.size + 2) w3 (.bool nb3) (.slice vo3 l3.length vcap3) w.heap.size 0 (by omega)).trans hkeep.1) (And.intro ((set2_cell (w.heap.size + 2) w3 (.bool nb3) (.slice vo3 l3.length vcap3) w.heap.size 1 (by omega)).trans hkeep.2.1) (And.intro ((set2_cell (w.heap.size + 2) w3 (.bool nb3) (.slice vo3 l3.length vcap3) (w.heap.size + 1) 0 (by omega)).trans hkeep.2.2.1) ((set2_cell (w.heap.size + 2) w3 (.bool nb3) (.slice vo3 l3.length vcap3) (w.heap.size + 1) 1 (by omega)).trans hkeep.2.2.2)))))
      have HE : Hid _ := n9_end (x := tot) (n := l.length + m.length) hR3 (by omega) ((hm0.drew.trans hm2).trans hm3) hN3.2 hN3.1 (hx3.trans (HS.out l2 hv2)) (by omega)
      clear hR3 hm3 hN3 hx3 hR0 hm0 hm2 hO2 hd2 ht2 hv2
      go_wp2_with fail
      obtain ⟨k1, q0, q1⟩ := HE.out
      unfold set2at at q0 q1
      exact bodyPost_ret (by simp [results, Tryz.results195, go_sem, q0, q1]) rfl k1
end Go.Proofs.YtmnfndpbblpjiabGreatDoor

/- The document's Needed. -/
namespace Go.Proofs.YtmnfndpbblpjiabGreatDoor
open Go.RowKit Pu

theorem Tryz.info4 : (Tryz.prog.info? 4).map (fun i => (i.zero, i.size, i.bytes)) = some (some (.bool false), 1, 1) := by kernel_rfl
def tvs (l : List Bool) : List Value := l.map fun b => Value.bool b
theorem tvs_set (d : List Bool) (k : Nat) (x : Bool) : (tvs d).set k (.bool x) = tvs (d.set k x) := by simp [tvs, List.map_set]
theorem made_false (n : Nat) : (madeCells #[Value.bool false] (n * 1)).toList = tvs (List.replicate n false) := by rw [toList_madeCells_one]; simp [tvs]
theorem tvs_cell {w : World} {base n : Nat} {ao : Option Addr} {cap : Nat} {l : List Bool} (h : w.ownsRow base 4 1 (.slice ao n cap) n (tvs l)) (hn : n = l.length) {k : Nat} (hk : k < l.length) :
    ∃ gb, ao = some ⟨gb, 0, none⟩ ∧ w.cell? ⟨gb, k, none⟩ = some (.bool l[k]) := by
  subst hn
  obtain ⟨gb, rfl, hc⟩ := owns_cell h (j := k) (by omega)
  exact ⟨gb, rfl, by rw [hc]; simp [tvs, hk]⟩

set_option maxHeartbeats 1600000 in
set_option maxRecDepth 100000 in
theorem needed_any (v : Value) (l : List Stp) (base : Nat) (w : World) (hl : l.length ≤ 3000) (hL : TLst w base v l) (hsm : ∀ t ∈ l, Small t) :
    Calls Tryz.prog 68 #[v] w fun e w' => Mod (fun _ => False) w w' ∧ ∃ u, e = .returned u ∧ w'.ownsRow w.heap.size 4 1 u l.length (tvs (neededL l)) := by
  obtain ⟨i0, hi, hz0, hz1, hz2⟩ := info_parts Tryz.info4
  obtain ⟨ao, cap, rfl, -⟩ := owns_form hL
  have HSM : Hid (∀ t ∈ l, Small t) := hsm
  clear hsm
  go_enter Tryz.func68, Tryz.ntmps68
  go_wp2_with (at_make; refine wpList_make_full _ rfl _ _ 111 rfl w.heap.size 4 i0 (.bool false) 1 Tryz.underlying111 hi hz0 hz1 _ _ _ _ l.length rfl rfl (by omega) (by omega) (by rw [hz2]; omega) (by unfold maxLen; omega) (by simp) ?_)
  intro W hown0 hgrow0
  have hm0 := (Mod.refl (fun _ => False) w).grown hgrow0 (fun k hk _ => by cases hk)
  have hown1 : W.ownsRow w.heap.size 4 1 (.slice (some ⟨w.heap.size, 0, none⟩) l.length l.length) l.length (tvs (List.replicate l.length false)) := by
    rw [← made_false]; simpa using hown0
  have hmW : Mod (fun q => w.heap.size ≤ q) w W := hm0.mono (fun _ _ f => f.elim)
  clear hgrow0 hown0 hm0
  go_wp2_with fail
  go_loopw [4, 5, 6, 7] (fun kv _ _ _ wr => ∃ (k : Nat) (d : List Bool), k ≤ l.length ∧ kv = .int .i64 ((k : Int) - 1) ∧ Hid (d.length = l.length) ∧ wr.ownsRow w.heap.size 4 1 (.slice (some ⟨w.heap.size, 0, none⟩) l.length l.length) l.length (tvs d) ∧ Hid (needFrom l k d = neededL l) ∧ Mod (fun q => w.heap.size ≤ q) w wr) (fun kv _ _ _ _ => (intOf kv + 1).toNat)
  case atStart => exact ⟨l.length, _, by omega, rfl, by simp [Hid], hown1, rfl, hmW⟩
  case round =>
    clear hown1 hmW
    obtain ⟨k, d, hk, rfl, HDL, hown, HN, hm⟩ := hrel
    cases k with
    | zero =>
      have HE : Hid (d = neededL l) := HN.out
      go_wp2_with fail
      go_ret
      exact ⟨hm.mono (fun q hq h => by omega), _, rfl, by rw [← HE.out]; exact hown⟩
    | succ k =>
      have hkl : k < l.length := by omega
      have e1 : ((k + 1 : Nat) : Int) - 1 = (k : Int) := by omega
      rw [e1]
      clear e1
      have hkd : k < d.length := by have := HDL.out; omega
      have hmw : Mod (fun _ => False) w wr := hm.mono (fun q hq h => by omega)
      have hLr := hL.mod hmw
      obtain ⟨gb, rfl, c0, c1, c2, c3⟩ := hLr.cell hkl
      obtain ⟨gd, hgd, cd⟩ := tvs_cell hown HDL.out.symm hkd
      injection hgd with hgd
      injection hgd with hgd
      subst hgd
      have fd := hown.frozenAt k
      have hs := HSM.out _ (List.getElem_mem hkl)
      have HI : Hid (isN l k d = (d[k] || decide (6 ≤ l[k].op))) := isN_at hkl hkd
      have s0 := hs.1
      generalize hdk : d[k] = dk at *
      have HDK : Hid (d[k] = dk) := hdk
      clear hdk
      cases dk with
      | true =>
        have HIY : Hid (isN l k d = true) := show isN l k d = true by rw [HI.out]; simp
        have HNS : Hid (needFrom l k (marks l k (readsOf l[k]) (d.set k true)) = neededL l) := show needFrom l k (marks l k (readsOf l[k]) (d.set k true)) = neededL l by
          rw [← HN.out]; show _ = needFrom l k (needStep l k d); rw [needStep_yes hkl HIY.out]
        have hst : (wr.setCell ⟨w.heap.size, k, none⟩ (.bool true)).ownsRow w.heap.size 4 1 (.slice (some ⟨w.heap.size, 0, none⟩) l.length l.length) l.length (tvs (d.set k true)) := by
          rw [← tvs_set]; exact (hown.stored k (.bool true)).1
        have hms : Mod (fun q => w.heap.size ≤ q) w (wr.setCell ⟨w.heap.size, k, none⟩ (.bool true)) := hm.setCell _ _ (fun _ => Nat.le_refl _)
        have hLs : TLst (wr.setCell ⟨w.heap.size, k, none⟩ (.bool true)) base (.slice (some ⟨gb, 0, none⟩) l.length cap) l := hL.mod (hms.mono (fun q hq h => by omega))
        have hcs : (wr.setCell ⟨w.heap.size, k, none⟩ (.bool true)).cell? ⟨w.heap.size, k, none⟩ = some (.bool true) := by
          obtain ⟨g2, hg2, cd2⟩ := tvs_cell hst (by have := HDL.out; simp; omega) (k := k) (by simpa using hkd)
          injection hg2 with hg2
          injection hg2 with hg2
          rw [← hg2] at cd2
          rw [cd2]; simp
        obtain ⟨g2, hg2, e0, e1, e2, e3⟩ := hLs.cell hkl
        injection hg2 with hg2
        injection hg2 with hg2
        subst hg2
        have hwl : w.heap.size < (wr.setCell ⟨w.heap.size, k, none⟩ (.bool true)).heap.size := (hst.lt w.heap.size rfl).2
        generalize hws : wr.setCell ⟨w.heap.size, k, none⟩ (.bool true) = ws at *
        clear HI HIY HDK hLr c1 c2 c3 hm hmw
        go_wp2_with fail
        refine (reads_any l[k] _ hs).mono ?_
        rintro e w2 ⟨hm2, v2, rfl, hownR⟩
        have hrl := readsOf_len l[k]
        have HRS : Hid (∀ r ∈ readsOf l[k], r < 256) := reads_small hs
        have hst2 := owns_mod hst hm2 (fun _ _ f => f)
        have hms2 := hms.trans (hm2.mono (q := fun q => w.heap.size ≤ q) (fun _ _ f => f.elim))
        clear hst hms hLs hcs e0 e1 e2 e3 hm2 c0 cd fd hws hown
        generalize readsOf l[k] = rs at *
        obtain ⟨ro, rcap, rfl, -⟩ := owns_form hownR
        go_wp2_with fail
        go_loopw [6, 7] (fun jv _ wr => ∃ (j : Nat) (d2 : List Bool), j ≤ rs.length ∧ jv = .int .i64 j ∧ Hid (d2.length = l.length) ∧ wr.ownsRow w.heap.size 4 1 (.slice (some ⟨w.heap.size, 0, none⟩) l.length l.length) l.length (tvs d2) ∧ Hid (d2 = marks l k (rs.take j) (d.set k true)) ∧ Mod (fun q => q = w.heap.size) w2 wr) (fun jv _ _ => rs.length - (intOf jv).toNat)
        case atStart => exact ⟨0, _, by omega, rfl, show (d.set k true).length = l.length by simpa using HDL.out, hst2, show _ = _ by simp [marks], Mod.refl _ _⟩
        case round =>
          clear hst2
          obtain ⟨j, d2, hj, rfl, HD2, hown, HM, hm⟩ := hrel
          have hmW : Mod (fun q => w.heap.size ≤ q) w wr := hms2.trans (hm.mono (fun q _ h => by omega))
          by_cases hlt : j < rs.length
          · have hLr := hL.mod (hmW.mono (fun q hq h => by omega))
            have hRr := owns_mod hownR hm (fun q hq f => by omega)
            obtain ⟨rb2, rfl, cj⟩ := ivs_cell hRr rfl hlt
            have hrj := HRS.out _ (List.getElem_mem hlt)
            have hsg := setterI_ge l rs[j] k
            have hsl := setterI_lt l rs[j] k
            have HT := marks_take l k rs (d.set k true) j hlt
            have HT : Hid (marks l k (rs.take (j + 1)) (d.set k true) = mark1 l k d2 rs[j]) := show _ = _ by rw [marks_take l k rs (d.set k true) j hlt, ← HM.out]
            by_cases hset : 0 ≤ setterI l rs[j] k
            · obtain ⟨a, ha⟩ : ∃ a : Nat, setterI l rs[j] k = (a : Int) := ⟨(setterI l rs[j] k).toNat, by omega⟩
              have HSE : Hid (setterI l rs[j] k = (a : Int)) := ha
              have hak : a < l.length := by omega
              have HM2 : Hid (d2.set a true = marks l k (rs.take (j + 1)) (d.set k true)) := show _ = _ by
                rw [HT.out]; unfold mark1; rw [HSE.out, if_pos (by omega)]; simp
              have HD3 : Hid ((d2.set a true).length = l.length) := show _ = _ by simpa using HD2.out
              have fd := hown.frozenAt a
              have hst : (wr.setCell ⟨w.heap.size, a, none⟩ (.bool true)).ownsRow w.heap.size 4 1 (.slice (some ⟨w.heap.size, 0, none⟩) l.length l.length) l.length (tvs (d2.set a true)) := by
                rw [← tvs_set]; exact (hown.stored a (.bool true)).1
              have hm3 : Mod (fun q => q = w.heap.size) w2 (wr.setCell ⟨w.heap.size, a, none⟩ (.bool true)) := hm.setCell _ _ (fun _ => rfl)
              obtain ⟨gd, hgd, cd⟩ := tvs_cell hown HD2.out.symm (k := a) (by have := HD2.out; omega)
              injection hgd with hgd
              injection hgd with hgd
              subst hgd
              clear ha hsg hsl hset HT HM
              go_wp2_with fail
              refine (setter_any (.slice (some ⟨gb, 0, none⟩) l.length cap) l k rs[j] base wr hl (by omega) hLr HSM.out hrj).mono ?_
              rintro e w3 ⟨he, rfl⟩
              rw [HSE.out] at he
              subst he
              go_wp2_with fail
              go_roundw
              case rel => exact ⟨j + 1, _, by omega, by go_num, HD3, hst, HM2, hm3⟩
              case measure => simp [intOf]; omega
            · have HSE : Hid (setterI l rs[j] k = -1) := show _ = _ by omega
              have HM2 : Hid (d2 = marks l k (rs.take (j + 1)) (d.set k true)) := show _ = _ by
                rw [HT.out]; unfold mark1; rw [if_neg hset]
              clear hsg hsl hset HT HM
              go_wp2_with fail
              refine (setter_any (.slice (some ⟨gb, 0, none⟩) l.length cap) l k rs[j] base wr hl (by omega) hLr HSM.out hrj).mono ?_
              rintro e w3 ⟨he, rfl⟩
              rw [HSE.out] at he
              subst he
              go_wp2_with fail
              go_roundw
              case rel => exact ⟨j + 1, _, by omega, by go_num, HD2, hown, HM2, hm⟩
              case measure => simp [intOf]; omega
          · have hj' : j = rs.length := by omega
            have HN2 : Hid (needFrom l k d2 = neededL l) := show _ = _ by rw [← HNS.out, HM.out, hj', List.take_length]
            clear hj' HM HNS
            go_wp2_with fail
            go_roundw
            case rel => exact ⟨k, d2, by omega, by go_num, HD2, hown, HN2, hmW⟩
            case measure => simp [intOf]
      | false =>
        by_cases h6 : 6 ≤ l[k].op
        · have HIY : Hid (isN l k d = true) := show isN l k d = true by rw [HI.out]; simp [h6]
          have HNS : Hid (needFrom l k (marks l k (readsOf l[k]) (d.set k true)) = neededL l) := show needFrom l k (marks l k (readsOf l[k]) (d.set k true)) = neededL l by
            rw [← HN.out]; show _ = needFrom l k (needStep l k d); rw [needStep_yes hkl HIY.out]
          have hst : (wr.setCell ⟨w.heap.size, k, none⟩ (.bool true)).ownsRow w.heap.size 4 1 (.slice (some ⟨w.heap.size, 0, none⟩) l.length l.length) l.length (tvs (d.set k true)) := by
            rw [← tvs_set]; exact (hown.stored k (.bool true)).1
          have hms : Mod (fun q => w.heap.size ≤ q) w (wr.setCell ⟨w.heap.size, k, none⟩ (.bool true)) := hm.setCell _ _ (fun _ => Nat.le_refl _)
          have hLs : TLst (wr.setCell ⟨w.heap.size, k, none⟩ (.bool true)) base (.slice (some ⟨gb, 0, none⟩) l.length cap) l := hL.mod (hms.mono (fun q hq h => by omega))
          have hcs : (wr.setCell ⟨w.heap.size, k, none⟩ (.bool true)).cell? ⟨w.heap.size, k, none⟩ = some (.bool true) := by
            obtain ⟨g2, hg2, cd2⟩ := tvs_cell hst (by have := HDL.out; simp; omega) (k := k) (by simpa using hkd)
            injection hg2 with hg2
            injection hg2 with hg2
            rw [← hg2] at cd2
            rw [cd2]; simp
          obtain ⟨g2, hg2, e0, e1, e2, e3⟩ := hLs.cell hkl
          injection hg2 with hg2
          injection hg2 with hg2
          subst hg2
          have hwl : w.heap.size < (wr.setCell ⟨w.heap.size, k, none⟩ (.bool true)).heap.size := (hst.lt w.heap.size rfl).2
          generalize hws : wr.setCell ⟨w.heap.size, k, none⟩ (.bool true) = ws at *
          clear HI HIY HDK hLr c1 c2 c3 hm hmw
          go_wp2_with fail
          refine (reads_any l[k] _ hs).mono ?_
          rintro e w2 ⟨hm2, v2, rfl, hownR⟩
          have hrl := readsOf_len l[k]
          have HRS : Hid (∀ r ∈ readsOf l[k], r < 256) := reads_small hs
          have hst2 := owns_mod hst hm2 (fun _ _ f => f)
          have hms2 := hms.trans (hm2.mono (q := fun q => w.heap.size ≤ q) (fun _ _ f => f.elim))
          clear hst hms hLs hcs e0 e1 e2 e3 hm2 c0 cd fd hws hown
          generalize readsOf l[k] = rs at *
          obtain ⟨ro, rcap, rfl, -⟩ := owns_form hownR
          go_wp2_with fail
          go_loopw [6, 7] (fun jv _ wr => ∃ (j : Nat) (d2 : List Bool), j ≤ rs.length ∧ jv = .int .i64 j ∧ Hid (d2.length = l.length) ∧ wr.ownsRow w.heap.size 4 1 (.slice (some ⟨w.heap.size, 0, none⟩) l.length l.length) l.length (tvs d2) ∧ Hid (d2 = marks l k (rs.take j) (d.set k true)) ∧ Mod (fun q => q = w.heap.size) w2 wr) (fun jv _ _ => rs.length - (intOf jv).toNat)
          case atStart => exact ⟨0, _, by omega, rfl, show (d.set k true).length = l.length by simpa using HDL.out, hst2, show _ = _ by simp [marks], Mod.refl _ _⟩
          case round =>
            clear hst2
            obtain ⟨j, d2, hj, rfl, HD2, hown, HM, hm⟩ := hrel
            have hmW : Mod (fun q => w.heap.size ≤ q) w wr := hms2.trans (hm.mono (fun q _ h => by omega))
            by_cases hlt : j < rs.length
            · have hLr := hL.mod (hmW.mono (fun q hq h => by omega))
              have hRr := owns_mod hownR hm (fun q hq f => by omega)
              obtain ⟨rb2, rfl, cj⟩ := ivs_cell hRr rfl hlt
              have hrj := HRS.out _ (List.getElem_mem hlt)
              have hsg := setterI_ge l rs[j] k
              have hsl := setterI_lt l rs[j] k
              have HT := marks_take l k rs (d.set k true) j hlt
              have HT : Hid (marks l k (rs.take (j + 1)) (d.set k true) = mark1 l k d2 rs[j]) := show _ = _ by rw [marks_take l k rs (d.set k true) j hlt, ← HM.out]
              by_cases hset : 0 ≤ setterI l rs[j] k
              · obtain ⟨a, ha⟩ : ∃ a : Nat, setterI l rs[j] k = (a : Int) := ⟨(setterI l rs[j] k).toNat, by omega⟩
                have HSE : Hid (setterI l rs[j] k = (a : Int)) := ha
                have hak : a < l.length := by omega
                have HM2 : Hid (d2.set a true = marks l k (rs.take (j + 1)) (d.set k true)) := show _ = _ by
                  rw [HT.out]; unfold mark1; rw [HSE.out, if_pos (by omega)]; simp
                have HD3 : Hid ((d2.set a true).length = l.length) := show _ = _ by simpa using HD2.out
                have fd := hown.frozenAt a
                have hst : (wr.setCell ⟨w.heap.size, a, none⟩ (.bool true)).ownsRow w.heap.size 4 1 (.slice (some ⟨w.heap.size, 0, none⟩) l.length l.length) l.length (tvs (d2.set a true)) := by
                  rw [← tvs_set]; exact (hown.stored a (.bool true)).1
                have hm3 : Mod (fun q => q = w.heap.size) w2 (wr.setCell ⟨w.heap.size, a, none⟩ (.bool true)) := hm.setCell _ _ (fun _ => rfl)
                obtain ⟨gd, hgd, cd⟩ := tvs_cell hown HD2.out.symm (k := a) (by have := HD2.out; omega)
                injection hgd with hgd
                injection hgd with hgd
                subst hgd
                clear ha hsg hsl hset HT HM
                go_wp2_with fail
                refine (setter_any (.slice (some ⟨gb, 0, none⟩) l.length cap) l k rs[j] base wr hl (by omega) hLr HSM.out hrj).mono ?_
                rintro e w3 ⟨he, rfl⟩
                rw [HSE.out] at he
                subst he
                go_wp2_with fail
                go_roundw
                case rel => exact ⟨j + 1, _, by omega, by go_num, HD3, hst, HM2, hm3⟩
                case measure => simp [intOf]; omega
              · have HSE : Hid (setterI l rs[j] k = -1) := show _ = _ by omega
                have HM2 : Hid (d2 = marks l k (rs.take (j + 1)) (d.set k true)) := show _ = _ by
                  rw [HT.out]; unfold mark1; rw [if_neg hset]
                clear hsg hsl hset HT HM
                go_wp2_with fail
                refine (setter_any (.slice (some ⟨gb, 0, none⟩) l.length cap) l k rs[j] base wr hl (by omega) hLr HSM.out hrj).mono ?_
                rintro e w3 ⟨he, rfl⟩
                rw [HSE.out] at he
                subst he
                go_wp2_with fail
                go_roundw
                case rel => exact ⟨j + 1, _, by omega, by go_num, HD2, hown, HM2, hm⟩
                case measure => simp [intOf]; omega
            · have hj' : j = rs.length := by omega
              have HN2 : Hid (needFrom l k d2 = neededL l) := show _ = _ by rw [← HNS.out, HM.out, hj', List.take_length]
              clear hj' HM HNS
              go_wp2_with fail
              go_roundw
              case rel => exact ⟨k, d2, by omega, by go_num, HD2, hown, HN2, hmW⟩
              case measure => simp [intOf]
        · have HIY : Hid (isN l k d = false) := show isN l k d = false by rw [HI.out]; simp [h6]
          have HNS : Hid (needFrom l k (d.set k false) = neededL l) := show _ = _ by
            rw [← HN.out]; show _ = needFrom l k (needStep l k d); rw [needStep_no HIY.out]; congr 1
            rw [← HDK.out, List.set_getElem_self]
          have hst : (wr.setCell ⟨w.heap.size, k, none⟩ (.bool false)).ownsRow w.heap.size 4 1 (.slice (some ⟨w.heap.size, 0, none⟩) l.length l.length) l.length (tvs (d.set k false)) := by
            rw [← tvs_set]; exact (hown.stored k (.bool false)).1
          have hms : Mod (fun q => w.heap.size ≤ q) w (wr.setCell ⟨w.heap.size, k, none⟩ (.bool false)) := hm.setCell _ _ (fun _ => Nat.le_refl _)
          have hcs : (wr.setCell ⟨w.heap.size, k, none⟩ (.bool false)).cell? ⟨w.heap.size, k, none⟩ = some (.bool false) := by
            obtain ⟨g2, hg2, cd2⟩ := tvs_cell hst (by have := HDL.out; simp; omega) (k := k) (by simpa using hkd)
            injection hg2 with hg2
            injection hg2 with hg2
            rw [← hg2] at cd2
            rw [cd2]; simp
          have HD3 : Hid ((d.set k false).length = l.length) := show _ = _ by simpa using HDL.out
          have hbf : decide ((6 : Int) ≤ (l[k].op : Int)) = false := by simp; omega
          clear HI HIY HDK hLr c1 c2 c3 hm hmw
          go_wp2_with fail
          go_roundw
          case rel => exact ⟨k, _, by omega, by go_num, HD3, hst, HNS, hms⟩
          case measure => simp [intOf]
end Go.Proofs.YtmnfndpbblpjiabGreatDoor
