/- Proved here: whatever three points, Run tells that the points halfway between each two and a foot lie on one circle or line; no condition (the three listed tables of Go's library are tied to the program's text). -/
import Derived.Test.YtmnfndpbblpjiaaGreatDoorZa48
namespace Go.Proofs.YtmnfndpbblpjiaaGreatDoor
open Go.RowKit Pu
theorem six_range {ax ay bx bY cx cy : Int} (h1 : sI ax) (h2 : sI ay) (h3 : sI bx) (h4 : sI bY) (h5 : sI cx) (h6 : sI cy) : ∀ x ∈ [ax, ay, bx, bY, cx, cy], -99 ≤ x ∧ x ≤ 99 := fun x hx => by
  simp at hx
  rcases hx with rfl | rfl | rfl | rfl | rfl | rfl <;> assumption
set_option maxHeartbeats 3200000 in
set_option maxRecDepth 100000 in
theorem nin_walk (x0 y0 x1 y1 x2 y2 : Int) (w : World) (h0 : isI x0) (k0 : isI y0) (h1 : isI x1) (k1 : isI y1) (h2 : isI x2) (k2 : isI y2) (hT : Tab w) :
    Calls Tryz.prog 12 #[spV x0 y0, spV x1 y1, spV x2 y2] w fun e w' => e = .returned (.bool true) ∧ Mod (fun _ => False) w w' := by
  have pa := fun w => at_any x0 y0 w h0 k0
  have pb := fun w => at_any x1 y1 w h1 k1
  have pc := fun w => at_any x2 y2 w h2 k2
  obtain ⟨r1, s1⟩ := plc_range x0
  obtain ⟨r2, s2⟩ := plc_range y0
  obtain ⟨r3, s3⟩ := plc_range x1
  obtain ⟨r4, s4⟩ := plc_range y1
  obtain ⟨r5, s5⟩ := plc_range x2
  obtain ⟨r6, s6⟩ := plc_range y2
  generalize plc x0 = ax at *
  generalize plc y0 = ay at *
  generalize plc x1 = bx at *
  generalize plc y1 = bY at *
  generalize plc x2 = cx at *
  generalize plc y2 = cy at *
  clear h0 k0 h1 k1 h2 k2
  have HT : Hid (Tab w) := hT
  clear hT
  have hm0 : Mod (fun _ => False) w (((w.alloc (.cells #[.int .i64 x0, .int .i64 y0] 26)).alloc (.cells #[.int .i64 x1, .int .i64 y1] 26)).alloc (.cells #[.int .i64 x2, .int .i64 y2] 26)) := (((Mod.refl _ w).alloc _).alloc _).alloc _
  obtain ⟨f1, f2, f3⟩ := alloc3_at w (.cells #[.int .i64 x0, .int .i64 y0] 26) (.cells #[.int .i64 x1, .int .i64 y1] 26) (.cells #[.int .i64 x2, .int .i64 y2] 26)
  obtain ⟨c0, c1⟩ := AtS.cs f1
  have HH : Hid _ := And.intro hm0 (And.intro f2 f3)
  clear hm0 f1 f2 f3
  go_enter Tryz.func12, Tryz.ntmps12
  go_wp2_with fail
  generalize ((w.alloc (.cells #[.int .i64 x0, .int .i64 y0] 26)).alloc (.cells #[.int .i64 x1, .int .i64 y1] 26)).alloc (.cells #[.int .i64 x2, .int .i64 y2] 26) = w0 at *
  obtain ⟨hm0, f2, f3⟩ := HH.out
  clear HH c0 c1
  refine (pa w0).mono ?_
  rintro e w1 ⟨rfl, q1⟩
  clear pa
  have hm1 := (hm0.trans q1).alloc (.cells #[.int .i64 ax, .int .i64 ay] 26)
  have f2' := AtS.md f2 (q1.alloc (.cells #[.int .i64 ax, .int .i64 ay] 26))
  have f3' := AtS.md f3 (q1.alloc (.cells #[.int .i64 ax, .int .i64 ay] 26))
  have fa := heap_alloc_new w1 (.cells #[.int .i64 ax, .int .i64 ay] 26)
  obtain ⟨c0, c1⟩ := AtS.cs f2'
  have HH : Hid _ := And.intro hm1 (And.intro f3' fa)
  clear hm1 f2' f3' fa hm0 f2 f3 q1
  go_wp2_with fail
  generalize w1.alloc (.cells #[.int .i64 ax, .int .i64 ay] 26) = w2 at *
  generalize w1.heap.size = ka at *
  obtain ⟨hm1, f3, fa⟩ := HH.out
  clear HH c0 c1
  refine (pb w2).mono ?_
  rintro e w3 ⟨rfl, q1⟩
  clear pb
  have hm3 := (hm1.trans q1).alloc (.cells #[.int .i64 bx, .int .i64 bY] 26)
  have f3' := AtS.md f3 (q1.alloc (.cells #[.int .i64 bx, .int .i64 bY] 26))
  have fa' := AtS.md fa (q1.alloc (.cells #[.int .i64 bx, .int .i64 bY] 26))
  have fb := heap_alloc_new w3 (.cells #[.int .i64 bx, .int .i64 bY] 26)
  obtain ⟨c0, c1⟩ := AtS.cs f3'
  have HH : Hid _ := And.intro hm3 (And.intro fa' fb)
  clear hm3 f3' fa' fb hm1 f3 fa q1
  go_wp2_with fail
  generalize w3.alloc (.cells #[.int .i64 bx, .int .i64 bY] 26) = w4 at *
  generalize w3.heap.size = kb at *
  obtain ⟨hm3, fa, fb⟩ := HH.out
  clear HH c0 c1
  refine (pc w4).mono ?_
  rintro e w5 ⟨rfl, q1⟩
  clear pc
  have hm5 := (hm3.trans q1).alloc (.cells #[.int .i64 cx, .int .i64 cy] 26)
  have fa' := AtS.md fa (q1.alloc (.cells #[.int .i64 cx, .int .i64 cy] 26))
  have fb' := AtS.md fb (q1.alloc (.cells #[.int .i64 cx, .int .i64 cy] 26))
  have fc := heap_alloc_new w5 (.cells #[.int .i64 cx, .int .i64 cy] 26)
  obtain ⟨a0, a1⟩ := AtS.cs fa'
  obtain ⟨b0, b1⟩ := AtS.cs fb'
  obtain ⟨d0, d1⟩ := AtS.cs fc
  have HH : Hid _ := And.intro hm5 (And.intro fa' (And.intro fb' fc))
  clear hm5 fa' fb' fc hm3 fa fb q1
  have HM : Hid _ := RunA_of nin_whole nin_ok nin_ga nin_cmds (six_range (ax := ax) (ay := ay) (bx := bx) (bY := bY) (cx := cx) (cy := cy) ⟨r1, s1⟩ ⟨r2, s2⟩ ⟨r3, s3⟩ ⟨r4, s4⟩ ⟨r5, s5⟩ ⟨r6, s6⟩) rfl
  rw [nin_sem] at HM
  by_cases h3 : bx = cx ∧ bY = cy
  · have B1 : Hid ((bx == cx && bY == cy) = true) := show (bx == cx && bY == cy) = true by simp [h3.1, h3.2]
    replace h3 : Hid _ := h3
    go_wp2_with ((refine wpList_eqS rfl _ _ rfl bx bY cx cy rfl rfl true B1.out ?_))
    generalize w5.alloc (.cells #[.int .i64 cx, .int .i64 cy] 26) = w6 at *
    generalize w5.heap.size = kc at *
    obtain ⟨hmx, fa, fb, fc⟩ := HH.out
    clear HH a0 a1 b0 b1 d0 d1
    have hTn : Tab w6 := HT.out.mod hmx
    refine (three_any ax ay bx bY cx cy w6 ⟨r1, s1⟩ ⟨r2, s2⟩ ⟨r3, s3⟩ ⟨r4, s4⟩ ⟨r5, s5⟩ ⟨r6, s6⟩ hTn).mono ?_
    rintro e wz ⟨rfl, qz⟩
    have hmz := hmx.trans qz
    have hR : RunA ninS (jnL [ax, ay, bx, bY, cx, cy]) (⟨#[115, 54]⟩, 0) := by
      have h := HM.out
      rw [if_pos h3.out] at h
      exact h
    have hjs : (jnL [ax, ay, bx, bY, cx, cy]).size ≤ 140 := jn_size _ (by simp)
    have htl := fun w => tells_any ninS (jnL [ax, ay, bx, bY, cx, cy]) ⟨#[115, 54]⟩ w (by decide) hjs hR
    generalize jnL [ax, ay, bx, bY, cx, cy] = jj at *
    clear hR hTn qz hmx fa fb fc
    go_wp2_with fail
    refine (htl _).mono ?_
    rintro e wt ⟨rfl, qt⟩
    have hmt := hmz.trans qt
    clear htl
    go_wp2_with fail
    go_ret
    exact ⟨rfl, hmt⟩
  · have B1 : Hid ((bx == cx && bY == cy) = false) := show (bx == cx && bY == cy) = false by
      rw [Bool.eq_false_iff]
      intro hh
      rw [Bool.and_eq_true, beq_iff_eq, beq_iff_eq] at hh
      exact h3 hh
    replace h3 : Hid _ := h3
    go_wp2_with ((refine wpList_eqS rfl _ _ rfl bx bY cx cy rfl rfl false B1.out ?_))
    generalize w5.alloc (.cells #[.int .i64 cx, .int .i64 cy] 26) = w6 at *
    generalize w5.heap.size = kc at *
    obtain ⟨hmx, fa, fb, fc⟩ := HH.out
    clear HH a0 a1 b0 b1 d0 d1
    have hTn : Tab w6 := HT.out.mod hmx
    refine (three_any ax ay bx bY cx cy w6 ⟨r1, s1⟩ ⟨r2, s2⟩ ⟨r3, s3⟩ ⟨r4, s4⟩ ⟨r5, s5⟩ ⟨r6, s6⟩ hTn).mono ?_
    rintro e wz ⟨rfl, qz⟩
    have hmz := hmx.trans qz
    have hR : RunA ninS (jnL [ax, ay, bx, bY, cx, cy]) (⟨#[49]⟩, 0) := by
      have h := HM.out
      rw [if_neg h3.out] at h
      exact h
    have hjs : (jnL [ax, ay, bx, bY, cx, cy]).size ≤ 140 := jn_size _ (by simp)
    have htl := fun w => tells_any ninS (jnL [ax, ay, bx, bY, cx, cy]) ⟨#[49]⟩ w (by decide) hjs hR
    generalize jnL [ax, ay, bx, bY, cx, cy] = jj at *
    clear hR hTn qz hmx fa fb fc
    go_wp2_with fail
    refine (htl _).mono ?_
    rintro e wt ⟨rfl, qt⟩
    have hmt := hmz.trans qt
    clear htl
    go_wp2_with fail
    go_ret
    exact ⟨rfl, hmt⟩
end Go.Proofs.YtmnfndpbblpjiaaGreatDoor

namespace Go.Proofs.YtmnfndpbblpjiaaGreatDoor
open Go.ChangeShapes Go.WideShapes Go.ChangeAt Go.RowKit
set_option maxRecDepth 100000 in
theorem nine_reads (os : Os) {H : Type} (enc : TypeId × Value → H) : ∃ places, DataW.whole enc Tryz.prog ((laidOn (World.holding Tryz.prog os ⟨#[], #[], []⟩)).forCall (fun _ _ => 0) ⟨#[], #[spV 0 0, spV 0 0, spV 0 0], []⟩).memory Tryz.f12.params.toList Rows.nineSpec.vars false #[spV 0 0, spV 0 0, spV 0 0].toList 8 = some ([.agg [.lit (.int .i64 0), .lit (.int .i64 0)], .agg [.lit (.int .i64 0), .lit (.int .i64 0)], .agg [.lit (.int .i64 0), .lit (.int .i64 0)]], [], places) :=
  ⟨[], by kernel_rfl⟩
set_option maxRecDepth 100000 in
theorem nine_lifted (os : Os) (started : os.Started) (H : Type) (enc : TypeId × Value → H) (F : Stop.Interp) :
    ReturnsInHanded {} Tryz.checked os 12 .any ((OpenSpec.ofChange Rows.nineSpec).preRow enc Tryz.prog Tryz.f12 Rows.nineRow.domain false Rows.nineRow.laid) (((OpenSpec.ofChange Rows.nineSpec).at F).post enc Tryz.prog Tryz.f12 false true false false) := by
  obtain ⟨places, hx⟩ := nine_reads os enc
  refine returnsInHanded_of_row (C := Tryz.checked) (s := OpenSpec.ofChange Rows.nineSpec) Tryz.own started (by kernel_rfl) Tryz.func12
    (witness_row_at (enc := enc) (C := Tryz.checked) false (laidOn (World.holding Tryz.prog os ⟨#[], #[], []⟩)) #[spV 0 0, spV 0 0, spV 0 0] rfl (by kernel_rfl) (by kernel_rfl) (by kernel_rfl)
      (OpenSpec.preRow_of_cond 8 hx (by kernel_rfl) (fun k hk => by cases hk) (by kernel_rfl) (laid_met3 os))) ?_
  intro W base args ds gs before hval0 hW _ _ _ hLH _ _
  have hTab : Tab W := tab_of hLH
  have hval : ∀ (j : Nat) t v, Tryz.f12.params[j]? = some t → args[j]? = some v → Value.okWide Tryz.prog W .any base t v := hval0
  have hW' := hW
  obtain ⟨p, q, hA0, hV, rfl, _, _⟩ := hW
  have hA : DataW.TrodAll enc Tryz.prog W 0 (fun _ => true) true Tryz.f12.params.toList args.toList ds p := hA0
  rw [Tryz.params12] at hA hval
  obtain ⟨v0, v1, v2, d0, d1, d2, p0, p1, p2, rfl, rfl, rfl, h0, h1, h2⟩ := trodAll_three hA
  obtain ⟨rfl, rfl⟩ := trodVars_none hV
  have h0k := h0
  have h1k := h1
  have h2k := h2
  obtain ⟨n0, g0⟩ := h0
  obtain ⟨n1, g1⟩ := h1
  obtain ⟨n2, g2⟩ := h2
  clear hA0 hval0
  simp only [List.append_nil] at hW'
  have hlt : ∀ x ∈ p0 ++ (p1 ++ p2), x.block < W.heap.size := fun x hx => by simpa using hW'.lt x (by simpa using hx)
  obtain ⟨x0, y0, rfl, a0, b0⟩ := spot_of (okWide_struct Tryz.underlying26 (hval 0 26 v0 rfl rfl)) g0
  obtain ⟨x1, y1, rfl, a1, b1⟩ := spot_of (okWide_struct Tryz.underlying26 (hval 1 26 v1 rfl rfl)) g1
  obtain ⟨x2, y2, rfl, a2, b2⟩ := spot_of (okWide_struct Tryz.underlying26 (hval 2 26 v2 rfl rfl)) g2
  refine (nin_walk x0 y0 x1 y1 x2 y2 W a0 b0 a1 b1 a2 b2 hTab).mono fun e W' ⟨he, hm⟩ => ?_
  subst he
  have key : ∀ {t : TypeId} {v : Value} {d : DataW H} {q : List MemPlace}, t = 26 → DataW.Trod enc Tryz.prog W 0 (fun _ => true) true t v d q → (∀ x ∈ q, x.block < W.heap.size) → DataW.Trod enc Tryz.prog W' 0 (fun b => decide (b < W.heap.size)) true t v d q := fun ht h hl => by
    subst ht
    exact Below.trod Tryz.laidOut (by kernel_rfl) (of_decide_eq_true (by kernel_rfl)) h hm.below hl
  exact ⟨_, rfl, ⟨_, _, _, [], _, [], hW', trodAll_mk1 (shut_bool Tryz.underlying4 true), trodAll_mk3 (key rfl h0k (fun x hx => hlt x (by simp [hx]))) (key rfl h1k (fun x hx => hlt x (by simp [hx]))) (key rfl h2k (fun x hx => hlt x (by simp [hx]))), rfl, hm.below.frame _, fun h => by cases h⟩⟩
theorem nine_said : Rows.NineSaid :=
  OpenClaim.holds_of_cond 12 Tryz.f12 rfl rfl rfl rfl rfl rfl rfl ⟨rfl, rfl, rfl, rfl, rfl⟩ rfl rfl rfl rfl rfl (by kernel_rfl) Tryz.func12 (by kernel_rfl)
    (of_decide_eq_true (by kernel_rfl)) (by unfold Func.isWrapper; first | (rw [if_pos (by decide +kernel)]; kernel_rfl) | (rw [if_neg (by decide +kernel)]; exact ⟨rfl, rfl⟩))
    (fun os started H enc _ F => by rw [OpenClaim.pre_eq_preRow]; exact nine_lifted os started H enc F)
theorem nine_holds : Rows.NineCardSaid :=
  Claim7.holds_tied_plain_at .later [] _ _ _ _ nine_said (fun _ h => by cases h) (by kernel_rfl) (fun _ h => by cases h) nine_row_tie rfl ⟨rfl, rfl⟩ (by kernel_rfl) rfl (plain_of3 (by kernel_rfl) Tryz.func12 Tryz.params12) (by kernel_rfl)
end Go.Proofs.YtmnfndpbblpjiaaGreatDoor
