/- The scanner's step, state by state. -/
import Derived.Test.YtmnfndpbblpjiaaGreatDoorRf1
namespace Go.Proofs.YtmnfndpbblpjiaaGreatDoor
set_option linter.unusedVariables false
open Go.RowKit Pu

set_option maxHeartbeats 1000000 in
set_option maxRecDepth 100000 in
theorem next5_0 (xb n le ar c : Nat) (w : World) (hX : Scn w xb ⟨5, n, le, ar⟩) (hn : n ≤ 300) (hl : le ≤ 300) (ha : ar ≤ 300) (hc : c < 256) (hq41 : ((c : Int) == 41) = true) :
    Calls Tryz.prog 112 #[.pointer (some ⟨xb, 0, none⟩), .int .u8 c] w (NextEnd xb ⟨5, n, le, ar⟩ c w) := by
  have c0 := hX.c0
  have c1 := hX.c1
  have c2 := hX.c2
  have c3 := hX.c3
  have f0 := hX.fz 0
  have f1 := hX.fz 1
  have f2 := hX.fz 2
  have f3 := hX.fz 3
  have HX : Hid (Scn w xb ⟨5, n, le, ar⟩) := hX
  have HN : Hid (nx ⟨5, n, le, ar⟩ c = some ⟨7, n, le, ar⟩) := show nx ⟨5, n, le, ar⟩ c = some ⟨7, n, le, ar⟩ by
    have e_c41 : c = 41 := by have := hq41; simp at this; omega
    simp [nx, e_c41]
  clear hX
  go_enter Tryz.func112, Tryz.ntmps112
  go_wp2_with (go_at_call 82; refine (lettr _ _).mono ?_; rintro e w' ⟨rfl, rfl⟩)
  go_ret
  exact ne_yes HN.out (HX.out.set0 7) (mod1 xb 0 _ _)

set_option maxHeartbeats 1000000 in
set_option maxRecDepth 100000 in
theorem next5_1 (xb n le ar c : Nat) (w : World) (hX : Scn w xb ⟨5, n, le, ar⟩) (hn : n ≤ 300) (hl : le ≤ 300) (ha : ar ≤ 300) (hc : c < 256) (hq41 : ((c : Int) == 41) = false) (hq44 : ((c : Int) == 44) = true) (hae : ar < 4) :
    Calls Tryz.prog 112 #[.pointer (some ⟨xb, 0, none⟩), .int .u8 c] w (NextEnd xb ⟨5, n, le, ar⟩ c w) := by
  have c0 := hX.c0
  have c1 := hX.c1
  have c2 := hX.c2
  have c3 := hX.c3
  have f0 := hX.fz 0
  have f1 := hX.fz 1
  have f2 := hX.fz 2
  have f3 := hX.fz 3
  have HX : Hid (Scn w xb ⟨5, n, le, ar⟩) := hX
  have HN : Hid (nx ⟨5, n, le, ar⟩ c = some ⟨6, n, le, ar⟩) := show nx ⟨5, n, le, ar⟩ c = some ⟨6, n, le, ar⟩ by
    have e_c41 : ¬ c = 41 := by have := hq41; simp at this; omega
    have e_c44 : c = 44 := by have := hq44; simp at this; omega
    simp [nx, e_c44, hae]
  clear hX
  go_enter Tryz.func112, Tryz.ntmps112
  go_wp2_with (go_at_call 82; refine (lettr _ _).mono ?_; rintro e w' ⟨rfl, rfl⟩)
  go_ret
  exact ne_yes HN.out (HX.out.set0 6) (mod1 xb 0 _ _)

set_option maxHeartbeats 1000000 in
set_option maxRecDepth 100000 in
theorem next5_2 (xb n le ar c : Nat) (w : World) (hX : Scn w xb ⟨5, n, le, ar⟩) (hn : n ≤ 300) (hl : le ≤ 300) (ha : ar ≤ 300) (hc : c < 256) (hq41 : ((c : Int) == 41) = false) (hq44 : ((c : Int) == 44) = true) (hae : 4 ≤ ar) :
    Calls Tryz.prog 112 #[.pointer (some ⟨xb, 0, none⟩), .int .u8 c] w (NextEnd xb ⟨5, n, le, ar⟩ c w) := by
  have c0 := hX.c0
  have c1 := hX.c1
  have c2 := hX.c2
  have c3 := hX.c3
  have f0 := hX.fz 0
  have f1 := hX.fz 1
  have f2 := hX.fz 2
  have f3 := hX.fz 3
  have HX : Hid (Scn w xb ⟨5, n, le, ar⟩) := hX
  have HN : Hid (nx ⟨5, n, le, ar⟩ c = none) := show nx ⟨5, n, le, ar⟩ c = none by
    have e_c41 : ¬ c = 41 := by have := hq41; simp at this; omega
    have e_c44 : c = 44 := by have := hq44; simp at this; omega
    simp [nx, e_c44, show ¬ ar < 4 by omega]
  clear hX
  go_enter Tryz.func112, Tryz.ntmps112
  go_wp2_with (go_at_call 82; refine (lettr _ _).mono ?_; rintro e w' ⟨rfl, rfl⟩)
  go_ret
  exact ne_no HN.out

set_option maxHeartbeats 1000000 in
set_option maxRecDepth 100000 in
theorem next5_3 (xb n le ar c : Nat) (w : World) (hX : Scn w xb ⟨5, n, le, ar⟩) (hn : n ≤ 300) (hl : le ≤ 300) (ha : ar ≤ 300) (hc : c < 256) (hq41 : ((c : Int) == 41) = false) (hq44 : ((c : Int) == 44) = false) :
    Calls Tryz.prog 112 #[.pointer (some ⟨xb, 0, none⟩), .int .u8 c] w (NextEnd xb ⟨5, n, le, ar⟩ c w) := by
  have c0 := hX.c0
  have c1 := hX.c1
  have c2 := hX.c2
  have c3 := hX.c3
  have f0 := hX.fz 0
  have f1 := hX.fz 1
  have f2 := hX.fz 2
  have f3 := hX.fz 3
  have HX : Hid (Scn w xb ⟨5, n, le, ar⟩) := hX
  have HN : Hid (nx ⟨5, n, le, ar⟩ c = none) := show nx ⟨5, n, le, ar⟩ c = none by
    have e_c41 : ¬ c = 41 := by have := hq41; simp at this; omega
    have e_c44 : ¬ c = 44 := by have := hq44; simp at this; omega
    simp [nx, e_c41, e_c44]
  clear hX
  go_enter Tryz.func112, Tryz.ntmps112
  go_wp2_with (go_at_call 82; refine (lettr _ _).mono ?_; rintro e w' ⟨rfl, rfl⟩)
  go_ret
  exact ne_no HN.out

set_option maxHeartbeats 1000000 in
set_option maxRecDepth 100000 in
theorem next6_0 (xb n le ar c : Nat) (w : World) (hX : Scn w xb ⟨6, n, le, ar⟩) (hn : n ≤ 300) (hl : le ≤ 300) (ha : ar ≤ 300) (hc : c < 256) (hL : isL c = true) :
    Calls Tryz.prog 112 #[.pointer (some ⟨xb, 0, none⟩), .int .u8 c] w (NextEnd xb ⟨6, n, le, ar⟩ c w) := by
  have c0 := hX.c0
  have c1 := hX.c1
  have c2 := hX.c2
  have c3 := hX.c3
  have f0 := hX.fz 0
  have f1 := hX.fz 1
  have f2 := hX.fz 2
  have f3 := hX.fz 3
  have HX : Hid (Scn w xb ⟨6, n, le, ar⟩) := hX
  have HN : Hid (nx ⟨6, n, le, ar⟩ c = some ⟨5, n, le, ar + 1⟩) := show nx ⟨6, n, le, ar⟩ c = some ⟨5, n, le, ar + 1⟩ by
    simp [nx, hL]
  clear hX
  go_enter Tryz.func112, Tryz.ntmps112
  go_wp2_with (go_at_call 82; refine (lettr _ _).mono ?_; rintro e w' ⟨rfl, rfl⟩)
  go_ret
  exact ne_yes HN.out ((HX.out.set3 (ar + 1)).set0 5) (mod2 xb 3 0 _ _ _)

set_option maxHeartbeats 1000000 in
set_option maxRecDepth 100000 in
theorem next6_1 (xb n le ar c : Nat) (w : World) (hX : Scn w xb ⟨6, n, le, ar⟩) (hn : n ≤ 300) (hl : le ≤ 300) (ha : ar ≤ 300) (hc : c < 256) (hL : isL c = false) :
    Calls Tryz.prog 112 #[.pointer (some ⟨xb, 0, none⟩), .int .u8 c] w (NextEnd xb ⟨6, n, le, ar⟩ c w) := by
  have c0 := hX.c0
  have c1 := hX.c1
  have c2 := hX.c2
  have c3 := hX.c3
  have f0 := hX.fz 0
  have f1 := hX.fz 1
  have f2 := hX.fz 2
  have f3 := hX.fz 3
  have HX : Hid (Scn w xb ⟨6, n, le, ar⟩) := hX
  have HN : Hid (nx ⟨6, n, le, ar⟩ c = none) := show nx ⟨6, n, le, ar⟩ c = none by
    simp [nx, hL]
  clear hX
  go_enter Tryz.func112, Tryz.ntmps112
  go_wp2_with (go_at_call 82; refine (lettr _ _).mono ?_; rintro e w' ⟨rfl, rfl⟩)
  go_ret
  exact ne_no HN.out

set_option maxHeartbeats 1000000 in
set_option maxRecDepth 100000 in
theorem next7_0 (xb n le ar c : Nat) (w : World) (hX : Scn w xb ⟨7, n, le, ar⟩) (hn : n ≤ 300) (hl : le ≤ 300) (ha : ar ≤ 300) (hc : c < 256) (hq59 : ((c : Int) == 59) = true) :
    Calls Tryz.prog 112 #[.pointer (some ⟨xb, 0, none⟩), .int .u8 c] w (NextEnd xb ⟨7, n, le, ar⟩ c w) := by
  have c0 := hX.c0
  have c1 := hX.c1
  have c2 := hX.c2
  have c3 := hX.c3
  have f0 := hX.fz 0
  have f1 := hX.fz 1
  have f2 := hX.fz 2
  have f3 := hX.fz 3
  have HX : Hid (Scn w xb ⟨7, n, le, ar⟩) := hX
  have HN : Hid (nx ⟨7, n, le, ar⟩ c = some ⟨0, n + 1, le, ar⟩) := show nx ⟨7, n, le, ar⟩ c = some ⟨0, n + 1, le, ar⟩ by
    have e_c59 : c = 59 := by have := hq59; simp at this; omega
    simp [nx, e_c59]
  clear hX
  go_enter Tryz.func112, Tryz.ntmps112
  go_wp2_with (go_at_call 82; refine (lettr _ _).mono ?_; rintro e w' ⟨rfl, rfl⟩)
  go_ret
  exact ne_yes HN.out ((HX.out.set1 (n + 1)).set0 0) (mod2 xb 1 0 _ _ _)

set_option maxHeartbeats 1000000 in
set_option maxRecDepth 100000 in
theorem next7_1 (xb n le ar c : Nat) (w : World) (hX : Scn w xb ⟨7, n, le, ar⟩) (hn : n ≤ 300) (hl : le ≤ 300) (ha : ar ≤ 300) (hc : c < 256) (hq59 : ((c : Int) == 59) = false) :
    Calls Tryz.prog 112 #[.pointer (some ⟨xb, 0, none⟩), .int .u8 c] w (NextEnd xb ⟨7, n, le, ar⟩ c w) := by
  have c0 := hX.c0
  have c1 := hX.c1
  have c2 := hX.c2
  have c3 := hX.c3
  have f0 := hX.fz 0
  have f1 := hX.fz 1
  have f2 := hX.fz 2
  have f3 := hX.fz 3
  have HX : Hid (Scn w xb ⟨7, n, le, ar⟩) := hX
  have HN : Hid (nx ⟨7, n, le, ar⟩ c = none) := show nx ⟨7, n, le, ar⟩ c = none by
    have e_c59 : ¬ c = 59 := by have := hq59; simp at this; omega
    simp [nx, e_c59]
  clear hX
  go_enter Tryz.func112, Tryz.ntmps112
  go_wp2_with (go_at_call 82; refine (lettr _ _).mono ?_; rintro e w' ⟨rfl, rfl⟩)
  go_ret
  exact ne_no HN.out

end Go.Proofs.YtmnfndpbblpjiaaGreatDoor
