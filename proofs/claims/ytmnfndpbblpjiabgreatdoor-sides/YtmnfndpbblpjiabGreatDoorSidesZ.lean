/- Proved here: whatever three points, Run tells col, ccw (both ways round) and btw as whole numbers tell them; no condition (the three listed tables of Go's library are tied to the program's text). -/
import Derived.Test.YtmnfndpbblpjiabGreatDoorZb32
import Derived.Test.YtmnfndpbblpjiabGreatDoorZb33
/- The plane's theorems, asked of Run: Sides. -/
namespace Go.Proofs.YtmnfndpbblpjiabGreatDoor
open Go.RowKit Pu
theorem six_range {ax ay bx bY cx cy : Int} (h1 : sI ax) (h2 : sI ay) (h3 : sI bx) (h4 : sI bY) (h5 : sI cx) (h6 : sI cy) : ∀ x ∈ [ax, ay, bx, bY, cx, cy], -99 ≤ x ∧ x ≤ 99 := fun x hx => by
  simp at hx
  rcases hx with rfl | rfl | rfl | rfl | rfl | rfl <;> assumption
theorem prod_bd {p q : Int} {n : Nat} (h1 : -(n : Int) ≤ p) (h2 : p ≤ n) (h3 : -(n : Int) ≤ q) (h4 : q ≤ n) : -((n * n : Nat) : Int) ≤ p * q ∧ p * q ≤ ((n * n : Nat) : Int) := by
  have h : (p * q).natAbs ≤ n * n := by
    rw [Int.natAbs_mul]
    exact Nat.mul_le_mul (by omega) (by omega)
  omega
theorem wr64 {x : Int} (h1 : -100000 ≤ x) (h2 : x ≤ 100000) : IntKind.i64.wrap x = x := by simp [IntKind.wrap, IntKind.signed, IntKind.bits]; omega
set_option maxHeartbeats 3200000 in
set_option maxRecDepth 100000 in
theorem sid_walk (x0 y0 x1 y1 x2 y2 : Int) (w : World) (h0 : isI x0) (k0 : isI y0) (h1 : isI x1) (k1 : isI y1) (h2 : isI x2) (k2 : isI y2) (hT : Tab w) :
    Calls Tryz.prog 3 #[spV x0 y0, spV x1 y1, spV x2 y2] w fun e w' => e = .returned (.bool true) ∧ Mod (fun _ => False) w w' := by
  have pa := fun w => at_any x0 y0 w h0 k0
  have pb := fun w => at_any x1 y1 w h1 k1
  have pc := fun w => at_any x2 y2 w h2 k2
  obtain ⟨r1, s1⟩ := plc_range x0
  obtain ⟨r2, s2⟩ := plc_range y0
  obtain ⟨r3, s3⟩ := plc_range x1
  obtain ⟨r4, s4⟩ := plc_range y1
  obtain ⟨r5, s5⟩ := plc_range x2
  obtain ⟨r6, s6⟩ := plc_range y2
  generalize plc x0 = ax at *
  generalize plc y0 = ay at *
  generalize plc x1 = bx at *
  generalize plc y1 = bY at *
  generalize plc x2 = cx at *
  generalize plc y2 = cy at *
  clear h0 k0 h1 k1 h2 k2
  have HT : Hid (Tab w) := hT
  clear hT
  have hm0 : Mod (fun _ => False) w (((w.alloc (.cells #[.int .i64 x0, .int .i64 y0] 23)).alloc (.cells #[.int .i64 x1, .int .i64 y1] 23)).alloc (.cells #[.int .i64 x2, .int .i64 y2] 23)) := (((Mod.refl _ w).alloc _).alloc _).alloc _
  obtain ⟨f1, f2, f3⟩ := alloc3_at w (.cells #[.int .i64 x0, .int .i64 y0] 23) (.cells #[.int .i64 x1, .int .i64 y1] 23) (.cells #[.int .i64 x2, .int .i64 y2] 23)
  obtain ⟨c0, c1⟩ := AtS.cs f1
  have HH : Hid _ := And.intro hm0 (And.intro f2 f3)
  clear hm0 f1 f2 f3
  go_enter Tryz.func3, Tryz.ntmps3
  go_wp2_with fail
  generalize ((w.alloc (.cells #[.int .i64 x0, .int .i64 y0] 23)).alloc (.cells #[.int .i64 x1, .int .i64 y1] 23)).alloc (.cells #[.int .i64 x2, .int .i64 y2] 23) = w0 at *
  obtain ⟨hm0, f2, f3⟩ := HH.out
  clear HH c0 c1
  refine (pa w0).mono ?_
  rintro e w1 ⟨rfl, q1⟩
  clear pa
  have hm1 := (hm0.trans q1).alloc (.cells #[.int .i64 ax, .int .i64 ay] 23)
  have f2' := AtS.md f2 (q1.alloc (.cells #[.int .i64 ax, .int .i64 ay] 23))
  have f3' := AtS.md f3 (q1.alloc (.cells #[.int .i64 ax, .int .i64 ay] 23))
  have fa := heap_alloc_new w1 (.cells #[.int .i64 ax, .int .i64 ay] 23)
  obtain ⟨c0, c1⟩ := AtS.cs f2'
  have HH : Hid _ := And.intro hm1 (And.intro f3' fa)
  clear hm1 f2' f3' fa hm0 f2 f3 q1
  go_wp2_with fail
  generalize w1.alloc (.cells #[.int .i64 ax, .int .i64 ay] 23) = w2 at *
  generalize w1.heap.size = ka at *
  obtain ⟨hm1, f3, fa⟩ := HH.out
  clear HH c0 c1
  refine (pb w2).mono ?_
  rintro e w3 ⟨rfl, q1⟩
  clear pb
  have hm3 := (hm1.trans q1).alloc (.cells #[.int .i64 bx, .int .i64 bY] 23)
  have f3' := AtS.md f3 (q1.alloc (.cells #[.int .i64 bx, .int .i64 bY] 23))
  have fa' := AtS.md fa (q1.alloc (.cells #[.int .i64 bx, .int .i64 bY] 23))
  have fb := heap_alloc_new w3 (.cells #[.int .i64 bx, .int .i64 bY] 23)
  obtain ⟨c0, c1⟩ := AtS.cs f3'
  have HH : Hid _ := And.intro hm3 (And.intro fa' fb)
  clear hm3 f3' fa' fb hm1 f3 fa q1
  go_wp2_with fail
  generalize w3.alloc (.cells #[.int .i64 bx, .int .i64 bY] 23) = w4 at *
  generalize w3.heap.size = kb at *
  obtain ⟨hm3, fa, fb⟩ := HH.out
  clear HH c0 c1
  refine (pc w4).mono ?_
  rintro e w5 ⟨rfl, q1⟩
  clear pc
  have hm5 := (hm3.trans q1).alloc (.cells #[.int .i64 cx, .int .i64 cy] 23)
  have fa' := AtS.md fa (q1.alloc (.cells #[.int .i64 cx, .int .i64 cy] 23))
  have fb' := AtS.md fb (q1.alloc (.cells #[.int .i64 cx, .int .i64 cy] 23))
  have fc := heap_alloc_new w5 (.cells #[.int .i64 cx, .int .i64 cy] 23)
  obtain ⟨a0, a1⟩ := AtS.cs fa'
  obtain ⟨b0, b1⟩ := AtS.cs fb'
  obtain ⟨d0, d1⟩ := AtS.cs fc
  have HH : Hid _ := And.intro hm5 (And.intro fa' (And.intro fb' fc))
  clear hm5 fa' fb' fc hm3 fa fb q1
  obtain ⟨P1, hP1⟩ : ∃ x, x = (bx - ax) * (cy - ay) := ⟨_, rfl⟩
  obtain ⟨P2, hP2⟩ : ∃ x, x = (bY - ay) * (cx - ax) := ⟨_, rfl⟩
  obtain ⟨P3, hP3⟩ : ∃ x, x = (ax - bx) * (cx - bx) := ⟨_, rfl⟩
  obtain ⟨P4, hP4⟩ : ∃ x, x = (ay - bY) * (cy - bY) := ⟨_, rfl⟩
  obtain ⟨TT, hTT⟩ : ∃ x, x = P1 - P2 := ⟨_, rfl⟩
  obtain ⟨DD, hDD⟩ : ∃ x, x = P3 + P4 := ⟨_, rfl⟩
  have u0 := wr64 (x := bx - ax) (by omega) (by omega)
  have u1 := wr64 (x := cy - ay) (by omega) (by omega)
  have u2 := wr64 (x := bY - ay) (by omega) (by omega)
  have u3 := wr64 (x := cx - ax) (by omega) (by omega)
  have u4 := wr64 (x := ax - bx) (by omega) (by omega)
  have u5 := wr64 (x := cx - bx) (by omega) (by omega)
  have u6 := wr64 (x := ay - bY) (by omega) (by omega)
  have u7 := wr64 (x := cy - bY) (by omega) (by omega)
  have p1 := prod_bd (p := bx - ax) (q := cy - ay) (n := 198) (by omega) (by omega) (by omega) (by omega)
  rw [← hP1] at p1
  have v1 : IntKind.i64.wrap ((bx - ax) * (cy - ay)) = P1 := by rw [← hP1]; exact wr64 (by omega) (by omega)
  have p2 := prod_bd (p := bY - ay) (q := cx - ax) (n := 198) (by omega) (by omega) (by omega) (by omega)
  rw [← hP2] at p2
  have v2 : IntKind.i64.wrap ((bY - ay) * (cx - ax)) = P2 := by rw [← hP2]; exact wr64 (by omega) (by omega)
  have p3 := prod_bd (p := ax - bx) (q := cx - bx) (n := 198) (by omega) (by omega) (by omega) (by omega)
  rw [← hP3] at p3
  have v3 : IntKind.i64.wrap ((ax - bx) * (cx - bx)) = P3 := by rw [← hP3]; exact wr64 (by omega) (by omega)
  have p4 := prod_bd (p := ay - bY) (q := cy - bY) (n := 198) (by omega) (by omega) (by omega) (by omega)
  rw [← hP4] at p4
  have v4 : IntKind.i64.wrap ((ay - bY) * (cy - bY)) = P4 := by rw [← hP4]; exact wr64 (by omega) (by omega)
  have vT : IntKind.i64.wrap (P1 - P2) = TT := by rw [hTT]; exact wr64 (by omega) (by omega)
  have vD : IntKind.i64.wrap (P3 + P4) = DD := by rw [hDD]; exact wr64 (by omega) (by omega)
  have eT : (bx - ax) * (cy - ay) - (bY - ay) * (cx - ax) = TT := by rw [hTT, hP1, hP2]
  have eD : (ax - bx) * (cx - bx) + (ay - bY) * (cy - bY) = DD := by rw [hDD, hP3, hP4]
  have HM : Hid _ := RunA_of sid_whole sid_ok sid_ga sid_cmds (six_range (ax := ax) (ay := ay) (bx := bx) (bY := bY) (cx := cx) (cy := cy) ⟨r1, s1⟩ ⟨r2, s2⟩ ⟨r3, s3⟩ ⟨r4, s4⟩ ⟨r5, s5⟩ ⟨r6, s6⟩) rfl
  rw [sid_sem] at HM
  rw [eT, eD] at HM
  clear hP1 hP2 hP3 hP4 hTT hDD p1 p2 p3 p4 eT eD
  rcases (show (TT = 0 ∧ DD < 0) ∨ (TT = 0 ∧ ¬ DD < 0) ∨ 0 < TT ∨ TT < 0 by omega) with hc | hc | hc | hc
  · have q1 : decide (TT = 0) = true := by rw [decide_eq_true_eq]; omega
    have q2 : decide (TT > 0) = false := by rw [decide_eq_false_iff_not]; omega
    have q3 : decide (TT < 0) = false := by rw [decide_eq_false_iff_not]; omega
    have q4 : decide (DD < 0) = true := by rw [decide_eq_true_eq]; omega
    have z1 : (TT == 0) = true := by rw [beq_iff_eq]; omega
    have z2 : ¬ 0 < TT := by omega
    have z3 : ¬ TT < 0 := by omega
    have z4 : DD < 0 := by omega
    clear hc
    have HR : Hid (RunA sidS (jnL [ax, ay, bx, bY, cx, cy]) (bitB true ++ bitB false ++ bitB false ++ bitB true, 0)) := show RunA _ _ _ by
      have h := HM.out
      have e : (⟨#[bitP (decide (TT = 0)), bitP (decide (TT > 0)), bitP (decide (TT < 0)), bitP (decide (TT = 0) && decide (DD < 0))]⟩ : ByteArray) = bitB true ++ bitB false ++ bitB false ++ bitB true := by
        rw [q1, q2, q3, q4]; rfl
      rw [e] at h
      exact h
    clear HM
    go_wp2_with (go_at_call 10; refine (bit_any _ _).mono ?_; rintro e w' ⟨rfl, rfl⟩)
    generalize w5.alloc (.cells #[.int .i64 cx, .int .i64 cy] 23) = w6 at *
    generalize w5.heap.size = kc at *
    obtain ⟨hmx, fa, fb, fc⟩ := HH.out
    clear HH a0 a1 b0 b1 d0 d1
    have hTn : Tab w6 := HT.out.mod hmx
    refine (three_any ax ay bx bY cx cy w6 ⟨r1, s1⟩ ⟨r2, s2⟩ ⟨r3, s3⟩ ⟨r4, s4⟩ ⟨r5, s5⟩ ⟨r6, s6⟩ hTn).mono ?_
    rintro e wz ⟨rfl, qz⟩
    have hmz := hmx.trans qz
    have hR : RunA sidS (jnL [ax, ay, bx, bY, cx, cy]) (bitB true ++ bitB false ++ bitB false ++ bitB true, 0) := HR.out
    have hjs : (jnL [ax, ay, bx, bY, cx, cy]).size ≤ 140 := jn_size _ (by simp)
    have htl := fun w => tells_any sidS (jnL [ax, ay, bx, bY, cx, cy]) (bitB true ++ bitB false ++ bitB false ++ bitB true) w (by decide) hjs hR
    generalize jnL [ax, ay, bx, bY, cx, cy] = jj at *
    clear hR hTn qz hmx fa fb fc
    go_wp2_with fail
    refine (htl _).mono ?_
    rintro e wt ⟨rfl, qt⟩
    have hmt := hmz.trans qt
    clear htl
    go_wp2_with fail
    go_ret
    exact ⟨rfl, hmt⟩
  · have q1 : decide (TT = 0) = true := by rw [decide_eq_true_eq]; omega
    have q2 : decide (TT > 0) = false := by rw [decide_eq_false_iff_not]; omega
    have q3 : decide (TT < 0) = false := by rw [decide_eq_false_iff_not]; omega
    have q4 : decide (DD < 0) = false := by rw [decide_eq_false_iff_not]; omega
    have z1 : (TT == 0) = true := by rw [beq_iff_eq]; omega
    have z2 : ¬ 0 < TT := by omega
    have z3 : ¬ TT < 0 := by omega
    have z4 : ¬ DD < 0 := by omega
    clear hc
    have HR : Hid (RunA sidS (jnL [ax, ay, bx, bY, cx, cy]) (bitB true ++ bitB false ++ bitB false ++ bitB false, 0)) := show RunA _ _ _ by
      have h := HM.out
      have e : (⟨#[bitP (decide (TT = 0)), bitP (decide (TT > 0)), bitP (decide (TT < 0)), bitP (decide (TT = 0) && decide (DD < 0))]⟩ : ByteArray) = bitB true ++ bitB false ++ bitB false ++ bitB false := by
        rw [q1, q2, q3, q4]; rfl
      rw [e] at h
      exact h
    clear HM
    go_wp2_with (go_at_call 10; refine (bit_any _ _).mono ?_; rintro e w' ⟨rfl, rfl⟩)
    generalize w5.alloc (.cells #[.int .i64 cx, .int .i64 cy] 23) = w6 at *
    generalize w5.heap.size = kc at *
    obtain ⟨hmx, fa, fb, fc⟩ := HH.out
    clear HH a0 a1 b0 b1 d0 d1
    have hTn : Tab w6 := HT.out.mod hmx
    refine (three_any ax ay bx bY cx cy w6 ⟨r1, s1⟩ ⟨r2, s2⟩ ⟨r3, s3⟩ ⟨r4, s4⟩ ⟨r5, s5⟩ ⟨r6, s6⟩ hTn).mono ?_
    rintro e wz ⟨rfl, qz⟩
    have hmz := hmx.trans qz
    have hR : RunA sidS (jnL [ax, ay, bx, bY, cx, cy]) (bitB true ++ bitB false ++ bitB false ++ bitB false, 0) := HR.out
    have hjs : (jnL [ax, ay, bx, bY, cx, cy]).size ≤ 140 := jn_size _ (by simp)
    have htl := fun w => tells_any sidS (jnL [ax, ay, bx, bY, cx, cy]) (bitB true ++ bitB false ++ bitB false ++ bitB false) w (by decide) hjs hR
    generalize jnL [ax, ay, bx, bY, cx, cy] = jj at *
    clear hR hTn qz hmx fa fb fc
    go_wp2_with fail
    refine (htl _).mono ?_
    rintro e wt ⟨rfl, qt⟩
    have hmt := hmz.trans qt
    clear htl
    go_wp2_with fail
    go_ret
    exact ⟨rfl, hmt⟩
  · have q1 : decide (TT = 0) = false := by rw [decide_eq_false_iff_not]; omega
    have q2 : decide (TT > 0) = true := by rw [decide_eq_true_eq]; omega
    have q3 : decide (TT < 0) = false := by rw [decide_eq_false_iff_not]; omega
    have z1 : (TT == 0) = false := by rw [beq_eq_false_iff_ne, ne_eq]; omega
    have z2 : 0 < TT := by omega
    have z3 : ¬ TT < 0 := by omega
    clear hc
    have HR : Hid (RunA sidS (jnL [ax, ay, bx, bY, cx, cy]) (bitB false ++ bitB true ++ bitB false ++ bitB false, 0)) := show RunA _ _ _ by
      have h := HM.out
      have e : (⟨#[bitP (decide (TT = 0)), bitP (decide (TT > 0)), bitP (decide (TT < 0)), bitP (decide (TT = 0) && decide (DD < 0))]⟩ : ByteArray) = bitB false ++ bitB true ++ bitB false ++ bitB false := by
        rw [q1, q2, q3]; rfl
      rw [e] at h
      exact h
    clear HM
    go_wp2_with (go_at_call 10; refine (bit_any _ _).mono ?_; rintro e w' ⟨rfl, rfl⟩)
    generalize w5.alloc (.cells #[.int .i64 cx, .int .i64 cy] 23) = w6 at *
    generalize w5.heap.size = kc at *
    obtain ⟨hmx, fa, fb, fc⟩ := HH.out
    clear HH a0 a1 b0 b1 d0 d1
    have hTn : Tab w6 := HT.out.mod hmx
    refine (three_any ax ay bx bY cx cy w6 ⟨r1, s1⟩ ⟨r2, s2⟩ ⟨r3, s3⟩ ⟨r4, s4⟩ ⟨r5, s5⟩ ⟨r6, s6⟩ hTn).mono ?_
    rintro e wz ⟨rfl, qz⟩
    have hmz := hmx.trans qz
    have hR : RunA sidS (jnL [ax, ay, bx, bY, cx, cy]) (bitB false ++ bitB true ++ bitB false ++ bitB false, 0) := HR.out
    have hjs : (jnL [ax, ay, bx, bY, cx, cy]).size ≤ 140 := jn_size _ (by simp)
    have htl := fun w => tells_any sidS (jnL [ax, ay, bx, bY, cx, cy]) (bitB false ++ bitB true ++ bitB false ++ bitB false) w (by decide) hjs hR
    generalize jnL [ax, ay, bx, bY, cx, cy] = jj at *
    clear hR hTn qz hmx fa fb fc
    go_wp2_with fail
    refine (htl _).mono ?_
    rintro e wt ⟨rfl, qt⟩
    have hmt := hmz.trans qt
    clear htl
    go_wp2_with fail
    go_ret
    exact ⟨rfl, hmt⟩
  · have q1 : decide (TT = 0) = false := by rw [decide_eq_false_iff_not]; omega
    have q2 : decide (TT > 0) = false := by rw [decide_eq_false_iff_not]; omega
    have q3 : decide (TT < 0) = true := by rw [decide_eq_true_eq]; omega
    have z1 : (TT == 0) = false := by rw [beq_eq_false_iff_ne, ne_eq]; omega
    have z2 : ¬ 0 < TT := by omega
    have z3 : TT < 0 := by omega
    clear hc
    have HR : Hid (RunA sidS (jnL [ax, ay, bx, bY, cx, cy]) (bitB false ++ bitB false ++ bitB true ++ bitB false, 0)) := show RunA _ _ _ by
      have h := HM.out
      have e : (⟨#[bitP (decide (TT = 0)), bitP (decide (TT > 0)), bitP (decide (TT < 0)), bitP (decide (TT = 0) && decide (DD < 0))]⟩ : ByteArray) = bitB false ++ bitB false ++ bitB true ++ bitB false := by
        rw [q1, q2, q3]; rfl
      rw [e] at h
      exact h
    clear HM
    go_wp2_with (go_at_call 10; refine (bit_any _ _).mono ?_; rintro e w' ⟨rfl, rfl⟩)
    generalize w5.alloc (.cells #[.int .i64 cx, .int .i64 cy] 23) = w6 at *
    generalize w5.heap.size = kc at *
    obtain ⟨hmx, fa, fb, fc⟩ := HH.out
    clear HH a0 a1 b0 b1 d0 d1
    have hTn : Tab w6 := HT.out.mod hmx
    refine (three_any ax ay bx bY cx cy w6 ⟨r1, s1⟩ ⟨r2, s2⟩ ⟨r3, s3⟩ ⟨r4, s4⟩ ⟨r5, s5⟩ ⟨r6, s6⟩ hTn).mono ?_
    rintro e wz ⟨rfl, qz⟩
    have hmz := hmx.trans qz
    have hR : RunA sidS (jnL [ax, ay, bx, bY, cx, cy]) (bitB false ++ bitB false ++ bitB true ++ bitB false, 0) := HR.out
    have hjs : (jnL [ax, ay, bx, bY, cx, cy]).size ≤ 140 := jn_size _ (by simp)
    have htl := fun w => tells_any sidS (jnL [ax, ay, bx, bY, cx, cy]) (bitB false ++ bitB false ++ bitB true ++ bitB false) w (by decide) hjs hR
    generalize jnL [ax, ay, bx, bY, cx, cy] = jj at *
    clear hR hTn qz hmx fa fb fc
    go_wp2_with fail
    refine (htl _).mono ?_
    rintro e wt ⟨rfl, qt⟩
    have hmt := hmz.trans qt
    clear htl
    go_wp2_with fail
    go_ret
    exact ⟨rfl, hmt⟩
end Go.Proofs.YtmnfndpbblpjiabGreatDoor

namespace Go.Proofs.YtmnfndpbblpjiabGreatDoor
open Go.ChangeShapes Go.WideShapes Go.ChangeAt Go.RowKit

set_option maxRecDepth 100000 in
theorem sides_reads (os : Os) {H : Type} (enc : TypeId × Value → H) : ∃ places, DataW.whole enc Tryz.prog ((laidOn (World.holding Tryz.prog os ⟨#[], #[], []⟩)).forCall (fun _ _ => 0) ⟨#[], #[spV 0 0, spV 0 0, spV 0 0], []⟩).memory Tryz.f3.params.toList Rows.sidesSpec.vars false #[spV 0 0, spV 0 0, spV 0 0].toList 8 = some ([.agg [.lit (.int .i64 0), .lit (.int .i64 0)], .agg [.lit (.int .i64 0), .lit (.int .i64 0)], .agg [.lit (.int .i64 0), .lit (.int .i64 0)]], [], places) :=
  ⟨[], by kernel_rfl⟩

set_option maxRecDepth 100000 in
theorem sides_lifted (os : Os) (started : os.Started) (H : Type) (enc : TypeId × Value → H) (F : Stop.Interp) :
    ReturnsInHanded {} Tryz.checked os 3 .any ((OpenSpec.ofChange Rows.sidesSpec).preRow enc Tryz.prog Tryz.f3 Rows.sidesRow.domain false Rows.sidesRow.laid) (((OpenSpec.ofChange Rows.sidesSpec).at F).post enc Tryz.prog Tryz.f3 false true false false) := by
  obtain ⟨places, hx⟩ := sides_reads os enc
  refine returnsInHanded_of_row (C := Tryz.checked) (s := OpenSpec.ofChange Rows.sidesSpec) Tryz.own started (by kernel_rfl) Tryz.func3
    (witness_row_at (enc := enc) (C := Tryz.checked) false (laidOn (World.holding Tryz.prog os ⟨#[], #[], []⟩)) #[spV 0 0, spV 0 0, spV 0 0] rfl (by kernel_rfl) (by kernel_rfl) (by kernel_rfl)
      (OpenSpec.preRow_of_cond 8 hx (by kernel_rfl) (fun k hk => by cases hk) (by kernel_rfl) (laid_met3 os))) ?_
  intro W base args ds gs before hval0 hW _ _ _ hLH _ _
  have hTab : Tab W := tab_of hLH
  have hval : ∀ (j : Nat) t v, Tryz.f3.params[j]? = some t → args[j]? = some v → Value.okWide Tryz.prog W .any base t v := hval0
  have hW' := hW
  obtain ⟨p, q, hA0, hV, rfl, _, _⟩ := hW
  have hA : DataW.TrodAll enc Tryz.prog W 0 (fun _ => true) true Tryz.f3.params.toList args.toList ds p := hA0
  rw [Tryz.params3] at hA hval
  obtain ⟨v0, v1, v2, d0, d1, d2, p0, p1, p2, rfl, rfl, rfl, h0, h1, h2⟩ := trodAll_three hA
  obtain ⟨rfl, rfl⟩ := trodVars_none hV
  have h0k := h0
  have h1k := h1
  have h2k := h2
  obtain ⟨n0, g0⟩ := h0
  obtain ⟨n1, g1⟩ := h1
  obtain ⟨n2, g2⟩ := h2
  clear hA0 hval0
  simp only [List.append_nil] at hW'
  have hlt : ∀ x ∈ p0 ++ (p1 ++ p2), x.block < W.heap.size := fun x hx => by simpa using hW'.lt x (by simpa using hx)
  obtain ⟨x0, y0, rfl, a0, b0⟩ := spot_of (okWide_struct Tryz.underlying23 (hval 0 23 v0 rfl rfl)) g0
  obtain ⟨x1, y1, rfl, a1, b1⟩ := spot_of (okWide_struct Tryz.underlying23 (hval 1 23 v1 rfl rfl)) g1
  obtain ⟨x2, y2, rfl, a2, b2⟩ := spot_of (okWide_struct Tryz.underlying23 (hval 2 23 v2 rfl rfl)) g2
  refine (sid_walk x0 y0 x1 y1 x2 y2 W a0 b0 a1 b1 a2 b2 hTab).mono fun e W' ⟨he, hm⟩ => ?_
  subst he
  have key : ∀ {t : TypeId} {v : Value} {d : DataW H} {q : List MemPlace}, t = 23 → DataW.Trod enc Tryz.prog W 0 (fun _ => true) true t v d q → (∀ x ∈ q, x.block < W.heap.size) → DataW.Trod enc Tryz.prog W' 0 (fun b => decide (b < W.heap.size)) true t v d q := fun ht h hl => by
    subst ht
    exact Below.trod Tryz.laidOut (by kernel_rfl) (of_decide_eq_true (by kernel_rfl)) h hm.below hl
  exact ⟨_, rfl, ⟨_, _, _, [], _, [], hW', trodAll_mk1 (shut_bool Tryz.underlying4 true), trodAll_mk3 (key rfl h0k (fun x hx => hlt x (by simp [hx]))) (key rfl h1k (fun x hx => hlt x (by simp [hx]))) (key rfl h2k (fun x hx => hlt x (by simp [hx]))), rfl, hm.below.frame _, fun h => by cases h⟩⟩

theorem sides_said : Rows.SidesSaid :=
  OpenClaim.holds_of_cond 3 Tryz.f3 rfl rfl rfl rfl rfl rfl rfl ⟨rfl, rfl, rfl, rfl, rfl⟩ rfl rfl rfl rfl rfl (by kernel_rfl) Tryz.func3 (by kernel_rfl)
    (of_decide_eq_true (by kernel_rfl)) (by unfold Func.isWrapper; first | (rw [if_pos (by decide +kernel)]; kernel_rfl) | (rw [if_neg (by decide +kernel)]; exact ⟨rfl, rfl⟩))
    (fun os started H enc _ F => by rw [OpenClaim.pre_eq_preRow]; exact sides_lifted os started H enc F)

theorem sides_holds : Rows.SidesCardSaid :=
  Claim7.holds_tied_plain_at .later [] _ _ _ _ sides_said (fun _ h => by cases h) (by kernel_rfl) (fun _ h => by cases h) sides_row_tie rfl ⟨rfl, rfl⟩ (by kernel_rfl) rfl (plain_of3 (by kernel_rfl) Tryz.func3 Tryz.params3) (by kernel_rfl)
end Go.Proofs.YtmnfndpbblpjiabGreatDoor
