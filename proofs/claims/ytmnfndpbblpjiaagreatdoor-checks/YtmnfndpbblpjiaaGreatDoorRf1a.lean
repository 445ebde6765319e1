/- The scanner's step, state by state. -/
import Derived.Test.YtmnfndpbblpjiaaGreatDoorRf1
namespace Go.Proofs.YtmnfndpbblpjiaaGreatDoor
set_option linter.unusedVariables false
open Go.RowKit Pu

set_option maxHeartbeats 1000000 in
set_option maxRecDepth 100000 in
theorem next0_0 (xb n le ar c : Nat) (w : World) (hX : Scn w xb ⟨0, n, le, ar⟩) (hn : n ≤ 300) (hl : le ≤ 300) (ha : ar ≤ 300) (hc : c < 256) (hq16 : ((n : Int) == 16) = true) :
    Calls Tryz.prog 112 #[.pointer (some ⟨xb, 0, none⟩), .int .u8 c] w (NextEnd xb ⟨0, n, le, ar⟩ c w) := by
  have c0 := hX.c0
  have c1 := hX.c1
  have c2 := hX.c2
  have c3 := hX.c3
  have f0 := hX.fz 0
  have f1 := hX.fz 1
  have f2 := hX.fz 2
  have f3 := hX.fz 3
  have HX : Hid (Scn w xb ⟨0, n, le, ar⟩) := hX
  have HN : Hid (nx ⟨0, n, le, ar⟩ c = none) := show nx ⟨0, n, le, ar⟩ c = none by
    have e_n16 : n = 16 := by have := hq16; simp at this; omega
    simp [nx, e_n16]
  clear hX
  go_enter Tryz.func112, Tryz.ntmps112
  go_wp2_with (go_at_call 82; refine (lettr _ _).mono ?_; rintro e w' ⟨rfl, rfl⟩)
  go_ret
  exact ne_no HN.out

set_option maxHeartbeats 1000000 in
set_option maxRecDepth 100000 in
theorem next0_1 (xb n le ar c : Nat) (w : World) (hX : Scn w xb ⟨0, n, le, ar⟩) (hn : n ≤ 300) (hl : le ≤ 300) (ha : ar ≤ 300) (hc : c < 256) (hq16 : ((n : Int) == 16) = false) (hq63 : ((c : Int) == 63) = true) :
    Calls Tryz.prog 112 #[.pointer (some ⟨xb, 0, none⟩), .int .u8 c] w (NextEnd xb ⟨0, n, le, ar⟩ c w) := by
  have c0 := hX.c0
  have c1 := hX.c1
  have c2 := hX.c2
  have c3 := hX.c3
  have f0 := hX.fz 0
  have f1 := hX.fz 1
  have f2 := hX.fz 2
  have f3 := hX.fz 3
  have HX : Hid (Scn w xb ⟨0, n, le, ar⟩) := hX
  have HN : Hid (nx ⟨0, n, le, ar⟩ c = some ⟨2, n, le, ar⟩) := show nx ⟨0, n, le, ar⟩ c = some ⟨2, n, le, ar⟩ by
    have e_n16 : ¬ n = 16 := by have := hq16; simp at this; omega
    have e_c63 : c = 63 := by have := hq63; simp at this; omega
    simp [nx, e_n16, e_c63]
  clear hX
  go_enter Tryz.func112, Tryz.ntmps112
  go_wp2_with (go_at_call 82; refine (lettr _ _).mono ?_; rintro e w' ⟨rfl, rfl⟩)
  go_ret
  exact ne_yes HN.out (HX.out.set0 2) (mod1 xb 0 _ _)

set_option maxHeartbeats 1000000 in
set_option maxRecDepth 100000 in
theorem next0_2 (xb n le ar c : Nat) (w : World) (hX : Scn w xb ⟨0, n, le, ar⟩) (hn : n ≤ 300) (hl : le ≤ 300) (ha : ar ≤ 300) (hc : c < 256) (hq16 : ((n : Int) == 16) = false) (hq63 : ((c : Int) == 63) = false) (hL : isL c = true) :
    Calls Tryz.prog 112 #[.pointer (some ⟨xb, 0, none⟩), .int .u8 c] w (NextEnd xb ⟨0, n, le, ar⟩ c w) := by
  have c0 := hX.c0
  have c1 := hX.c1
  have c2 := hX.c2
  have c3 := hX.c3
  have f0 := hX.fz 0
  have f1 := hX.fz 1
  have f2 := hX.fz 2
  have f3 := hX.fz 3
  have HX : Hid (Scn w xb ⟨0, n, le, ar⟩) := hX
  have HN : Hid (nx ⟨0, n, le, ar⟩ c = some ⟨1, n, le, ar⟩) := show nx ⟨0, n, le, ar⟩ c = some ⟨1, n, le, ar⟩ by
    have e_n16 : ¬ n = 16 := by have := hq16; simp at this; omega
    have e_c63 : ¬ c = 63 := by have := hq63; simp at this; omega
    simp [nx, e_n16, e_c63, hL]
  clear hX
  go_enter Tryz.func112, Tryz.ntmps112
  go_wp2_with (go_at_call 82; refine (lettr _ _).mono ?_; rintro e w' ⟨rfl, rfl⟩)
  go_ret
  exact ne_yes HN.out (HX.out.set0 1) (mod1 xb 0 _ _)

set_option maxHeartbeats 1000000 in
set_option maxRecDepth 100000 in
theorem next0_3 (xb n le ar c : Nat) (w : World) (hX : Scn w xb ⟨0, n, le, ar⟩) (hn : n ≤ 300) (hl : le ≤ 300) (ha : ar ≤ 300) (hc : c < 256) (hq16 : ((n : Int) == 16) = false) (hq63 : ((c : Int) == 63) = false) (hL : isL c = false) :
    Calls Tryz.prog 112 #[.pointer (some ⟨xb, 0, none⟩), .int .u8 c] w (NextEnd xb ⟨0, n, le, ar⟩ c w) := by
  have c0 := hX.c0
  have c1 := hX.c1
  have c2 := hX.c2
  have c3 := hX.c3
  have f0 := hX.fz 0
  have f1 := hX.fz 1
  have f2 := hX.fz 2
  have f3 := hX.fz 3
  have HX : Hid (Scn w xb ⟨0, n, le, ar⟩) := hX
  have HN : Hid (nx ⟨0, n, le, ar⟩ c = none) := show nx ⟨0, n, le, ar⟩ c = none by
    have e_n16 : ¬ n = 16 := by have := hq16; simp at this; omega
    have e_c63 : ¬ c = 63 := by have := hq63; simp at this; omega
    simp [nx, e_n16, e_c63, hL]
  clear hX
  go_enter Tryz.func112, Tryz.ntmps112
  go_wp2_with (go_at_call 82; refine (lettr _ _).mono ?_; rintro e w' ⟨rfl, rfl⟩)
  go_ret
  exact ne_no HN.out

set_option maxHeartbeats 1000000 in
set_option maxRecDepth 100000 in
theorem next1_0 (xb n le ar c : Nat) (w : World) (hX : Scn w xb ⟨1, n, le, ar⟩) (hn : n ≤ 300) (hl : le ≤ 300) (ha : ar ≤ 300) (hc : c < 256) (hq61 : ((c : Int) == 61) = true) :
    Calls Tryz.prog 112 #[.pointer (some ⟨xb, 0, none⟩), .int .u8 c] w (NextEnd xb ⟨1, n, le, ar⟩ c w) := by
  have c0 := hX.c0
  have c1 := hX.c1
  have c2 := hX.c2
  have c3 := hX.c3
  have f0 := hX.fz 0
  have f1 := hX.fz 1
  have f2 := hX.fz 2
  have f3 := hX.fz 3
  have HX : Hid (Scn w xb ⟨1, n, le, ar⟩) := hX
  have HN : Hid (nx ⟨1, n, le, ar⟩ c = some ⟨2, n, le, ar⟩) := show nx ⟨1, n, le, ar⟩ c = some ⟨2, n, le, ar⟩ by
    have e_c61 : c = 61 := by have := hq61; simp at this; omega
    simp [nx, e_c61]
  clear hX
  go_enter Tryz.func112, Tryz.ntmps112
  go_wp2_with (go_at_call 82; refine (lettr _ _).mono ?_; rintro e w' ⟨rfl, rfl⟩)
  go_ret
  exact ne_yes HN.out (HX.out.set0 2) (mod1 xb 0 _ _)

set_option maxHeartbeats 1000000 in
set_option maxRecDepth 100000 in
theorem next1_1 (xb n le ar c : Nat) (w : World) (hX : Scn w xb ⟨1, n, le, ar⟩) (hn : n ≤ 300) (hl : le ≤ 300) (ha : ar ≤ 300) (hc : c < 256) (hq61 : ((c : Int) == 61) = false) :
    Calls Tryz.prog 112 #[.pointer (some ⟨xb, 0, none⟩), .int .u8 c] w (NextEnd xb ⟨1, n, le, ar⟩ c w) := by
  have c0 := hX.c0
  have c1 := hX.c1
  have c2 := hX.c2
  have c3 := hX.c3
  have f0 := hX.fz 0
  have f1 := hX.fz 1
  have f2 := hX.fz 2
  have f3 := hX.fz 3
  have HX : Hid (Scn w xb ⟨1, n, le, ar⟩) := hX
  have HN : Hid (nx ⟨1, n, le, ar⟩ c = none) := show nx ⟨1, n, le, ar⟩ c = none by
    have e_c61 : ¬ c = 61 := by have := hq61; simp at this; omega
    simp [nx, e_c61]
  clear hX
  go_enter Tryz.func112, Tryz.ntmps112
  go_wp2_with (go_at_call 82; refine (lettr _ _).mono ?_; rintro e w' ⟨rfl, rfl⟩)
  go_ret
  exact ne_no HN.out

set_option maxHeartbeats 1000000 in
set_option maxRecDepth 100000 in
theorem next2_0 (xb n le ar c : Nat) (w : World) (hX : Scn w xb ⟨2, n, le, ar⟩) (hn : n ≤ 300) (hl : le ≤ 300) (ha : ar ≤ 300) (hc : c < 256) (hL : isL c = true) :
    Calls Tryz.prog 112 #[.pointer (some ⟨xb, 0, none⟩), .int .u8 c] w (NextEnd xb ⟨2, n, le, ar⟩ c w) := by
  have c0 := hX.c0
  have c1 := hX.c1
  have c2 := hX.c2
  have c3 := hX.c3
  have f0 := hX.fz 0
  have f1 := hX.fz 1
  have f2 := hX.fz 2
  have f3 := hX.fz 3
  have HX : Hid (Scn w xb ⟨2, n, le, ar⟩) := hX
  have HN : Hid (nx ⟨2, n, le, ar⟩ c = some ⟨3, n, 1, ar⟩) := show nx ⟨2, n, le, ar⟩ c = some ⟨3, n, 1, ar⟩ by
    simp [nx, hL]
  clear hX
  go_enter Tryz.func112, Tryz.ntmps112
  go_wp2_with (go_at_call 82; refine (lettr _ _).mono ?_; rintro e w' ⟨rfl, rfl⟩)
  go_ret
  exact ne_yes HN.out ((HX.out.set2 1).set0 3) (mod2 xb 2 0 _ _ _)

set_option maxHeartbeats 1000000 in
set_option maxRecDepth 100000 in
theorem next2_1 (xb n le ar c : Nat) (w : World) (hX : Scn w xb ⟨2, n, le, ar⟩) (hn : n ≤ 300) (hl : le ≤ 300) (ha : ar ≤ 300) (hc : c < 256) (hL : isL c = false) :
    Calls Tryz.prog 112 #[.pointer (some ⟨xb, 0, none⟩), .int .u8 c] w (NextEnd xb ⟨2, n, le, ar⟩ c w) := by
  have c0 := hX.c0
  have c1 := hX.c1
  have c2 := hX.c2
  have c3 := hX.c3
  have f0 := hX.fz 0
  have f1 := hX.fz 1
  have f2 := hX.fz 2
  have f3 := hX.fz 3
  have HX : Hid (Scn w xb ⟨2, n, le, ar⟩) := hX
  have HN : Hid (nx ⟨2, n, le, ar⟩ c = none) := show nx ⟨2, n, le, ar⟩ c = none by
    simp [nx, hL]
  clear hX
  go_enter Tryz.func112, Tryz.ntmps112
  go_wp2_with (go_at_call 82; refine (lettr _ _).mono ?_; rintro e w' ⟨rfl, rfl⟩)
  go_ret
  exact ne_no HN.out

end Go.Proofs.YtmnfndpbblpjiaaGreatDoor
