/- The scanner's step, state by state. -/
import Derived.Test.YtmnfndpbblpjiaaGreatDoorRf1
namespace Go.Proofs.YtmnfndpbblpjiaaGreatDoor
set_option linter.unusedVariables false
open Go.RowKit Pu

set_option maxHeartbeats 1000000 in
set_option maxRecDepth 100000 in
theorem next3_0 (xb n le ar c : Nat) (w : World) (hX : Scn w xb ⟨3, n, le, ar⟩) (hn : n ≤ 300) (hl : le ≤ 300) (ha : ar ≤ 300) (hc : c < 256) (hL : isL c = true) (hle : le < 6) :
    Calls Tryz.prog 112 #[.pointer (some ⟨xb, 0, none⟩), .int .u8 c] w (NextEnd xb ⟨3, n, le, ar⟩ c w) := by
  have c0 := hX.c0
  have c1 := hX.c1
  have c2 := hX.c2
  have c3 := hX.c3
  have f0 := hX.fz 0
  have f1 := hX.fz 1
  have f2 := hX.fz 2
  have f3 := hX.fz 3
  have HX : Hid (Scn w xb ⟨3, n, le, ar⟩) := hX
  have HN : Hid (nx ⟨3, n, le, ar⟩ c = some ⟨3, n, le + 1, ar⟩) := show nx ⟨3, n, le, ar⟩ c = some ⟨3, n, le + 1, ar⟩ by
    simp [nx, hL, hle]
  clear hX
  go_enter Tryz.func112, Tryz.ntmps112
  go_wp2_with (go_at_call 82; refine (lettr _ _).mono ?_; rintro e w' ⟨rfl, rfl⟩)
  go_ret
  exact ne_yes HN.out ((HX.out.set2 (le + 1)).set0 3) (mod2 xb 2 0 _ _ _)

set_option maxHeartbeats 1000000 in
set_option maxRecDepth 100000 in
theorem next3_1 (xb n le ar c : Nat) (w : World) (hX : Scn w xb ⟨3, n, le, ar⟩) (hn : n ≤ 300) (hl : le ≤ 300) (ha : ar ≤ 300) (hc : c < 256) (hL : isL c = true) (hle : 6 ≤ le) (hq40 : ((c : Int) == 40) = false) :
    Calls Tryz.prog 112 #[.pointer (some ⟨xb, 0, none⟩), .int .u8 c] w (NextEnd xb ⟨3, n, le, ar⟩ c w) := by
  have c0 := hX.c0
  have c1 := hX.c1
  have c2 := hX.c2
  have c3 := hX.c3
  have f0 := hX.fz 0
  have f1 := hX.fz 1
  have f2 := hX.fz 2
  have f3 := hX.fz 3
  have HX : Hid (Scn w xb ⟨3, n, le, ar⟩) := hX
  have HN : Hid (nx ⟨3, n, le, ar⟩ c = none) := show nx ⟨3, n, le, ar⟩ c = none by
    have e_c40 : ¬ c = 40 := by have := hq40; simp at this; omega
    simp [nx, hL, show ¬ le < 6 by omega, e_c40]
  clear hX
  go_enter Tryz.func112, Tryz.ntmps112
  go_wp2_with (go_at_call 82; refine (lettr _ _).mono ?_; rintro e w' ⟨rfl, rfl⟩)
  go_ret
  exact ne_no HN.out

set_option maxHeartbeats 1000000 in
set_option maxRecDepth 100000 in
theorem next3_2 (xb n le ar c : Nat) (w : World) (hX : Scn w xb ⟨3, n, le, ar⟩) (hn : n ≤ 300) (hl : le ≤ 300) (ha : ar ≤ 300) (hc : c < 256) (hL : isL c = false) (hq40 : ((c : Int) == 40) = true) :
    Calls Tryz.prog 112 #[.pointer (some ⟨xb, 0, none⟩), .int .u8 c] w (NextEnd xb ⟨3, n, le, ar⟩ c w) := by
  have c0 := hX.c0
  have c1 := hX.c1
  have c2 := hX.c2
  have c3 := hX.c3
  have f0 := hX.fz 0
  have f1 := hX.fz 1
  have f2 := hX.fz 2
  have f3 := hX.fz 3
  have HX : Hid (Scn w xb ⟨3, n, le, ar⟩) := hX
  have HN : Hid (nx ⟨3, n, le, ar⟩ c = some ⟨4, n, le, 0⟩) := show nx ⟨3, n, le, ar⟩ c = some ⟨4, n, le, 0⟩ by
    have e_c40 : c = 40 := by have := hq40; simp at this; omega
    simp [nx, e_c40, isL]
  clear hX
  go_enter Tryz.func112, Tryz.ntmps112
  go_wp2_with (go_at_call 82; refine (lettr _ _).mono ?_; rintro e w' ⟨rfl, rfl⟩)
  go_ret
  exact ne_yes HN.out ((HX.out.set3 0).set0 4) (mod2 xb 3 0 _ _ _)

set_option maxHeartbeats 1000000 in
set_option maxRecDepth 100000 in
theorem next3_3 (xb n le ar c : Nat) (w : World) (hX : Scn w xb ⟨3, n, le, ar⟩) (hn : n ≤ 300) (hl : le ≤ 300) (ha : ar ≤ 300) (hc : c < 256) (hL : isL c = false) (hq40 : ((c : Int) == 40) = false) :
    Calls Tryz.prog 112 #[.pointer (some ⟨xb, 0, none⟩), .int .u8 c] w (NextEnd xb ⟨3, n, le, ar⟩ c w) := by
  have c0 := hX.c0
  have c1 := hX.c1
  have c2 := hX.c2
  have c3 := hX.c3
  have f0 := hX.fz 0
  have f1 := hX.fz 1
  have f2 := hX.fz 2
  have f3 := hX.fz 3
  have HX : Hid (Scn w xb ⟨3, n, le, ar⟩) := hX
  have HN : Hid (nx ⟨3, n, le, ar⟩ c = none) := show nx ⟨3, n, le, ar⟩ c = none by
    have e_c40 : ¬ c = 40 := by have := hq40; simp at this; omega
    simp [nx, hL, e_c40]
  clear hX
  go_enter Tryz.func112, Tryz.ntmps112
  go_wp2_with (go_at_call 82; refine (lettr _ _).mono ?_; rintro e w' ⟨rfl, rfl⟩)
  go_ret
  exact ne_no HN.out

set_option maxHeartbeats 1000000 in
set_option maxRecDepth 100000 in
theorem next4_0 (xb n le ar c : Nat) (w : World) (hX : Scn w xb ⟨4, n, le, ar⟩) (hn : n ≤ 300) (hl : le ≤ 300) (ha : ar ≤ 300) (hc : c < 256) (hL : isL c = true) :
    Calls Tryz.prog 112 #[.pointer (some ⟨xb, 0, none⟩), .int .u8 c] w (NextEnd xb ⟨4, n, le, ar⟩ c w) := by
  have c0 := hX.c0
  have c1 := hX.c1
  have c2 := hX.c2
  have c3 := hX.c3
  have f0 := hX.fz 0
  have f1 := hX.fz 1
  have f2 := hX.fz 2
  have f3 := hX.fz 3
  have HX : Hid (Scn w xb ⟨4, n, le, ar⟩) := hX
  have HN : Hid (nx ⟨4, n, le, ar⟩ c = some ⟨5, n, le, ar + 1⟩) := show nx ⟨4, n, le, ar⟩ c = some ⟨5, n, le, ar + 1⟩ by
    simp [nx, hL]
  clear hX
  go_enter Tryz.func112, Tryz.ntmps112
  go_wp2_with (go_at_call 82; refine (lettr _ _).mono ?_; rintro e w' ⟨rfl, rfl⟩)
  go_ret
  exact ne_yes HN.out ((HX.out.set3 (ar + 1)).set0 5) (mod2 xb 3 0 _ _ _)

set_option maxHeartbeats 1000000 in
set_option maxRecDepth 100000 in
theorem next4_1 (xb n le ar c : Nat) (w : World) (hX : Scn w xb ⟨4, n, le, ar⟩) (hn : n ≤ 300) (hl : le ≤ 300) (ha : ar ≤ 300) (hc : c < 256) (hL : isL c = false) (hq41 : ((c : Int) == 41) = true) :
    Calls Tryz.prog 112 #[.pointer (some ⟨xb, 0, none⟩), .int .u8 c] w (NextEnd xb ⟨4, n, le, ar⟩ c w) := by
  have c0 := hX.c0
  have c1 := hX.c1
  have c2 := hX.c2
  have c3 := hX.c3
  have f0 := hX.fz 0
  have f1 := hX.fz 1
  have f2 := hX.fz 2
  have f3 := hX.fz 3
  have HX : Hid (Scn w xb ⟨4, n, le, ar⟩) := hX
  have HN : Hid (nx ⟨4, n, le, ar⟩ c = some ⟨7, n, le, ar⟩) := show nx ⟨4, n, le, ar⟩ c = some ⟨7, n, le, ar⟩ by
    have e_c41 : c = 41 := by have := hq41; simp at this; omega
    simp [nx, e_c41, isL]
  clear hX
  go_enter Tryz.func112, Tryz.ntmps112
  go_wp2_with (go_at_call 82; refine (lettr _ _).mono ?_; rintro e w' ⟨rfl, rfl⟩)
  go_ret
  exact ne_yes HN.out (HX.out.set0 7) (mod1 xb 0 _ _)

set_option maxHeartbeats 1000000 in
set_option maxRecDepth 100000 in
theorem next4_2 (xb n le ar c : Nat) (w : World) (hX : Scn w xb ⟨4, n, le, ar⟩) (hn : n ≤ 300) (hl : le ≤ 300) (ha : ar ≤ 300) (hc : c < 256) (hL : isL c = false) (hq41 : ((c : Int) == 41) = false) :
    Calls Tryz.prog 112 #[.pointer (some ⟨xb, 0, none⟩), .int .u8 c] w (NextEnd xb ⟨4, n, le, ar⟩ c w) := by
  have c0 := hX.c0
  have c1 := hX.c1
  have c2 := hX.c2
  have c3 := hX.c3
  have f0 := hX.fz 0
  have f1 := hX.fz 1
  have f2 := hX.fz 2
  have f3 := hX.fz 3
  have HX : Hid (Scn w xb ⟨4, n, le, ar⟩) := hX
  have HN : Hid (nx ⟨4, n, le, ar⟩ c = none) := show nx ⟨4, n, le, ar⟩ c = none by
    have e_c41 : ¬ c = 41 := by have := hq41; simp at this; omega
    simp [nx, hL, e_c41]
  clear hX
  go_enter Tryz.func112, Tryz.ntmps112
  go_wp2_with (go_at_call 82; refine (lettr _ _).mono ?_; rintro e w' ⟨rfl, rfl⟩)
  go_ret
  exact ne_no HN.out

end Go.Proofs.YtmnfndpbblpjiaaGreatDoor
