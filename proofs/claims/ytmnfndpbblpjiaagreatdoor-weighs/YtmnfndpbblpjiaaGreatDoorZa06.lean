/- Check on both sides. -/
import Derived.Test.YtmnfndpbblpjiaaGreatDoorZa05
import Derived.Test.YtmnfndpbblpjiaaGreatDoorZa03
import Derived.Test.YtmnfndpbblpjiaaGreatDoorZa04
namespace Go.Proofs.YtmnfndpbblpjiaaGreatDoor
open Go.RowKit Pu
set_option maxHeartbeats 400000 in
theorem check_long (s : ByteArray) (w : World) (hs : 300 < s.size) (hm : s.size ≤ maxLen) : Calls Tryz.prog 36 #[.string s] w fun e w' => e = .returned (.tuple #[.int .i64 1, .int .i64 0]) ∧ w = w' := by
  go_enter Tryz.func36, Tryz.ntmps36
  go_wp2_with fail
  refine (und_long s w hs hm).mono ?_
  rintro e w2 ⟨rfl, rfl⟩
  go_wp2_with fail
  go_ret2
  exact ⟨rfl, rfl⟩
set_option maxHeartbeats 400000 in
theorem check_any (s : ByteArray) (w : World) (hs : s.size ≤ 300) : Calls Tryz.prog 36 #[.string s] w fun e w' => (∃ a b : Nat, Ans s a b ∧ e = .returned (.tuple #[.int .i64 a, .int .i64 b])) ∧ Mod (fun _ => False) w w' := by
  go_enter Tryz.func36, Tryz.ntmps36
  go_wp2_with fail
  refine (und_any s w hs).mono ?_
  rintro e w2 ⟨hm, ⟨k, hst, rfl⟩ | ⟨hw, p, k, hk, hok, hp, he, rfl⟩ | ⟨hw, v, q, hok, hq, hL, hle, rfl⟩⟩
  · go_wp2_with fail
    go_ret2
    exact ⟨⟨2, k, .inl ⟨hst, rfl⟩, rfl⟩, hm⟩
  · have HA : Hid (Ans s (err p (gaA s s.size).l[k]) k) := .inr (.inl ⟨hw, p, hk, hok, hp, he, rfl⟩)
    generalize err p (gaA s s.size).l[k] = er at *
    clear hp
    go_wp2_with fail
    go_ret2
    exact ⟨⟨er, k, HA.out, rfl⟩, hm⟩
  · have HA : Hid (Ans s 0 0) := .inr (.inr ⟨hw, rfl, rfl, pq q, hok, by rw [sts_pq]; exact hq⟩)
    clear hq
    go_wp2_with fail
    go_ret2
    exact ⟨⟨0, 0, HA.out, rfl⟩, hm⟩
end Go.Proofs.YtmnfndpbblpjiaaGreatDoor

/- The scanner's step, state by state. -/
namespace Go.Proofs.YtmnfndpbblpjiaaGreatDoor
set_option linter.unusedVariables false
open Go.RowKit Pu
set_option maxHeartbeats 1000000 in
set_option maxRecDepth 100000 in
theorem next0_0 (xb n le ar c : Nat) (w : World) (hX : Scn w xb ⟨0, n, le, ar⟩) (hn : n ≤ 300) (hl : le ≤ 300) (ha : ar ≤ 300) (hc : c < 256) (hq16 : ((n : Int) == 16) = true) :
    Calls Tryz.prog 112 #[.pointer (some ⟨xb, 0, none⟩), .int .u8 c] w (NextEnd xb ⟨0, n, le, ar⟩ c w) := by
  have c0 := hX.c0
  have c1 := hX.c1
  have c2 := hX.c2
  have c3 := hX.c3
  have f0 := hX.fz 0
  have f1 := hX.fz 1
  have f2 := hX.fz 2
  have f3 := hX.fz 3
  have HX : Hid (Scn w xb ⟨0, n, le, ar⟩) := hX
  have HN : Hid (nx ⟨0, n, le, ar⟩ c = none) := show nx ⟨0, n, le, ar⟩ c = none by
    have e_n16 : n = 16 := by have := hq16; simp at this; omega
    simp [nx, e_n16]
  clear hX
  go_enter Tryz.func112, Tryz.ntmps112
  go_wp2_with (go_at_call 82; refine (lettr _ _).mono ?_; rintro e w' ⟨rfl, rfl⟩)
  go_ret
  exact ne_no HN.out
set_option maxHeartbeats 1000000 in
set_option maxRecDepth 100000 in
theorem next0_1 (xb n le ar c : Nat) (w : World) (hX : Scn w xb ⟨0, n, le, ar⟩) (hn : n ≤ 300) (hl : le ≤ 300) (ha : ar ≤ 300) (hc : c < 256) (hq16 : ((n : Int) == 16) = false) (hq63 : ((c : Int) == 63) = true) :
    Calls Tryz.prog 112 #[.pointer (some ⟨xb, 0, none⟩), .int .u8 c] w (NextEnd xb ⟨0, n, le, ar⟩ c w) := by
  have c0 := hX.c0
  have c1 := hX.c1
  have c2 := hX.c2
  have c3 := hX.c3
  have f0 := hX.fz 0
  have f1 := hX.fz 1
  have f2 := hX.fz 2
  have f3 := hX.fz 3
  have HX : Hid (Scn w xb ⟨0, n, le, ar⟩) := hX
  have HN : Hid (nx ⟨0, n, le, ar⟩ c = some ⟨2, n, le, ar⟩) := show nx ⟨0, n, le, ar⟩ c = some ⟨2, n, le, ar⟩ by
    have e_n16 : ¬ n = 16 := by have := hq16; simp at this; omega
    have e_c63 : c = 63 := by have := hq63; simp at this; omega
    simp [nx, e_n16, e_c63]
  clear hX
  go_enter Tryz.func112, Tryz.ntmps112
  go_wp2_with (go_at_call 82; refine (lettr _ _).mono ?_; rintro e w' ⟨rfl, rfl⟩)
  go_ret
  exact ne_yes HN.out (HX.out.set0 2) (mod1 xb 0 _ _)
set_option maxHeartbeats 1000000 in
set_option maxRecDepth 100000 in
theorem next0_2 (xb n le ar c : Nat) (w : World) (hX : Scn w xb ⟨0, n, le, ar⟩) (hn : n ≤ 300) (hl : le ≤ 300) (ha : ar ≤ 300) (hc : c < 256) (hq16 : ((n : Int) == 16) = false) (hq63 : ((c : Int) == 63) = false) (hL : isL c = true) :
    Calls Tryz.prog 112 #[.pointer (some ⟨xb, 0, none⟩), .int .u8 c] w (NextEnd xb ⟨0, n, le, ar⟩ c w) := by
  have c0 := hX.c0
  have c1 := hX.c1
  have c2 := hX.c2
  have c3 := hX.c3
  have f0 := hX.fz 0
  have f1 := hX.fz 1
  have f2 := hX.fz 2
  have f3 := hX.fz 3
  have HX : Hid (Scn w xb ⟨0, n, le, ar⟩) := hX
  have HN : Hid (nx ⟨0, n, le, ar⟩ c = some ⟨1, n, le, ar⟩) := show nx ⟨0, n, le, ar⟩ c = some ⟨1, n, le, ar⟩ by
    have e_n16 : ¬ n = 16 := by have := hq16; simp at this; omega
    have e_c63 : ¬ c = 63 := by have := hq63; simp at this; omega
    simp [nx, e_n16, e_c63, hL]
  clear hX
  go_enter Tryz.func112, Tryz.ntmps112
  go_wp2_with (go_at_call 82; refine (lettr _ _).mono ?_; rintro e w' ⟨rfl, rfl⟩)
  go_ret
  exact ne_yes HN.out (HX.out.set0 1) (mod1 xb 0 _ _)
set_option maxHeartbeats 1000000 in
set_option maxRecDepth 100000 in
theorem next0_3 (xb n le ar c : Nat) (w : World) (hX : Scn w xb ⟨0, n, le, ar⟩) (hn : n ≤ 300) (hl : le ≤ 300) (ha : ar ≤ 300) (hc : c < 256) (hq16 : ((n : Int) == 16) = false) (hq63 : ((c : Int) == 63) = false) (hL : isL c = false) :
    Calls Tryz.prog 112 #[.pointer (some ⟨xb, 0, none⟩), .int .u8 c] w (NextEnd xb ⟨0, n, le, ar⟩ c w) := by
  have c0 := hX.c0
  have c1 := hX.c1
  have c2 := hX.c2
  have c3 := hX.c3
  have f0 := hX.fz 0
  have f1 := hX.fz 1
  have f2 := hX.fz 2
  have f3 := hX.fz 3
  have HX : Hid (Scn w xb ⟨0, n, le, ar⟩) := hX
  have HN : Hid (nx ⟨0, n, le, ar⟩ c = none) := show nx ⟨0, n, le, ar⟩ c = none by
    have e_n16 : ¬ n = 16 := by have := hq16; simp at this; omega
    have e_c63 : ¬ c = 63 := by have := hq63; simp at this; omega
    simp [nx, e_n16, e_c63, hL]
  clear hX
  go_enter Tryz.func112, Tryz.ntmps112
  go_wp2_with (go_at_call 82; refine (lettr _ _).mono ?_; rintro e w' ⟨rfl, rfl⟩)
  go_ret
  exact ne_no HN.out
set_option maxHeartbeats 1000000 in
set_option maxRecDepth 100000 in
theorem next1_0 (xb n le ar c : Nat) (w : World) (hX : Scn w xb ⟨1, n, le, ar⟩) (hn : n ≤ 300) (hl : le ≤ 300) (ha : ar ≤ 300) (hc : c < 256) (hq61 : ((c : Int) == 61) = true) :
    Calls Tryz.prog 112 #[.pointer (some ⟨xb, 0, none⟩), .int .u8 c] w (NextEnd xb ⟨1, n, le, ar⟩ c w) := by
  have c0 := hX.c0
  have c1 := hX.c1
  have c2 := hX.c2
  have c3 := hX.c3
  have f0 := hX.fz 0
  have f1 := hX.fz 1
  have f2 := hX.fz 2
  have f3 := hX.fz 3
  have HX : Hid (Scn w xb ⟨1, n, le, ar⟩) := hX
  have HN : Hid (nx ⟨1, n, le, ar⟩ c = some ⟨2, n, le, ar⟩) := show nx ⟨1, n, le, ar⟩ c = some ⟨2, n, le, ar⟩ by
    have e_c61 : c = 61 := by have := hq61; simp at this; omega
    simp [nx, e_c61]
  clear hX
  go_enter Tryz.func112, Tryz.ntmps112
  go_wp2_with (go_at_call 82; refine (lettr _ _).mono ?_; rintro e w' ⟨rfl, rfl⟩)
  go_ret
  exact ne_yes HN.out (HX.out.set0 2) (mod1 xb 0 _ _)
set_option maxHeartbeats 1000000 in
set_option maxRecDepth 100000 in
theorem next1_1 (xb n le ar c : Nat) (w : World) (hX : Scn w xb ⟨1, n, le, ar⟩) (hn : n ≤ 300) (hl : le ≤ 300) (ha : ar ≤ 300) (hc : c < 256) (hq61 : ((c : Int) == 61) = false) :
    Calls Tryz.prog 112 #[.pointer (some ⟨xb, 0, none⟩), .int .u8 c] w (NextEnd xb ⟨1, n, le, ar⟩ c w) := by
  have c0 := hX.c0
  have c1 := hX.c1
  have c2 := hX.c2
  have c3 := hX.c3
  have f0 := hX.fz 0
  have f1 := hX.fz 1
  have f2 := hX.fz 2
  have f3 := hX.fz 3
  have HX : Hid (Scn w xb ⟨1, n, le, ar⟩) := hX
  have HN : Hid (nx ⟨1, n, le, ar⟩ c = none) := show nx ⟨1, n, le, ar⟩ c = none by
    have e_c61 : ¬ c = 61 := by have := hq61; simp at this; omega
    simp [nx, e_c61]
  clear hX
  go_enter Tryz.func112, Tryz.ntmps112
  go_wp2_with (go_at_call 82; refine (lettr _ _).mono ?_; rintro e w' ⟨rfl, rfl⟩)
  go_ret
  exact ne_no HN.out
set_option maxHeartbeats 1000000 in
set_option maxRecDepth 100000 in
theorem next2_0 (xb n le ar c : Nat) (w : World) (hX : Scn w xb ⟨2, n, le, ar⟩) (hn : n ≤ 300) (hl : le ≤ 300) (ha : ar ≤ 300) (hc : c < 256) (hL : isL c = true) :
    Calls Tryz.prog 112 #[.pointer (some ⟨xb, 0, none⟩), .int .u8 c] w (NextEnd xb ⟨2, n, le, ar⟩ c w) := by
  have c0 := hX.c0
  have c1 := hX.c1
  have c2 := hX.c2
  have c3 := hX.c3
  have f0 := hX.fz 0
  have f1 := hX.fz 1
  have f2 := hX.fz 2
  have f3 := hX.fz 3
  have HX : Hid (Scn w xb ⟨2, n, le, ar⟩) := hX
  have HN : Hid (nx ⟨2, n, le, ar⟩ c = some ⟨3, n, 1, ar⟩) := show nx ⟨2, n, le, ar⟩ c = some ⟨3, n, 1, ar⟩ by
    simp [nx, hL]
  clear hX
  go_enter Tryz.func112, Tryz.ntmps112
  go_wp2_with (go_at_call 82; refine (lettr _ _).mono ?_; rintro e w' ⟨rfl, rfl⟩)
  go_ret
  exact ne_yes HN.out ((HX.out.set2 1).set0 3) (mod2 xb 2 0 _ _ _)
set_option maxHeartbeats 1000000 in
set_option maxRecDepth 100000 in
theorem next2_1 (xb n le ar c : Nat) (w : World) (hX : Scn w xb ⟨2, n, le, ar⟩) (hn : n ≤ 300) (hl : le ≤ 300) (ha : ar ≤ 300) (hc : c < 256) (hL : isL c = false) :
    Calls Tryz.prog 112 #[.pointer (some ⟨xb, 0, none⟩), .int .u8 c] w (NextEnd xb ⟨2, n, le, ar⟩ c w) := by
  have c0 := hX.c0
  have c1 := hX.c1
  have c2 := hX.c2
  have c3 := hX.c3
  have f0 := hX.fz 0
  have f1 := hX.fz 1
  have f2 := hX.fz 2
  have f3 := hX.fz 3
  have HX : Hid (Scn w xb ⟨2, n, le, ar⟩) := hX
  have HN : Hid (nx ⟨2, n, le, ar⟩ c = none) := show nx ⟨2, n, le, ar⟩ c = none by
    simp [nx, hL]
  clear hX
  go_enter Tryz.func112, Tryz.ntmps112
  go_wp2_with (go_at_call 82; refine (lettr _ _).mono ?_; rintro e w' ⟨rfl, rfl⟩)
  go_ret
  exact ne_no HN.out
end Go.Proofs.YtmnfndpbblpjiaaGreatDoor

/- The scanner's step, state by state. -/
namespace Go.Proofs.YtmnfndpbblpjiaaGreatDoor
set_option linter.unusedVariables false
open Go.RowKit Pu
set_option maxHeartbeats 1000000 in
set_option maxRecDepth 100000 in
theorem next3_0 (xb n le ar c : Nat) (w : World) (hX : Scn w xb ⟨3, n, le, ar⟩) (hn : n ≤ 300) (hl : le ≤ 300) (ha : ar ≤ 300) (hc : c < 256) (hL : isL c = true) (hle : le < 6) :
    Calls Tryz.prog 112 #[.pointer (some ⟨xb, 0, none⟩), .int .u8 c] w (NextEnd xb ⟨3, n, le, ar⟩ c w) := by
  have c0 := hX.c0
  have c1 := hX.c1
  have c2 := hX.c2
  have c3 := hX.c3
  have f0 := hX.fz 0
  have f1 := hX.fz 1
  have f2 := hX.fz 2
  have f3 := hX.fz 3
  have HX : Hid (Scn w xb ⟨3, n, le, ar⟩) := hX
  have HN : Hid (nx ⟨3, n, le, ar⟩ c = some ⟨3, n, le + 1, ar⟩) := show nx ⟨3, n, le, ar⟩ c = some ⟨3, n, le + 1, ar⟩ by
    simp [nx, hL, hle]
  clear hX
  go_enter Tryz.func112, Tryz.ntmps112
  go_wp2_with (go_at_call 82; refine (lettr _ _).mono ?_; rintro e w' ⟨rfl, rfl⟩)
  go_ret
  exact ne_yes HN.out ((HX.out.set2 (le + 1)).set0 3) (mod2 xb 2 0 _ _ _)
set_option maxHeartbeats 1000000 in
set_option maxRecDepth 100000 in
theorem next3_1 (xb n le ar c : Nat) (w : World) (hX : Scn w xb ⟨3, n, le, ar⟩) (hn : n ≤ 300) (hl : le ≤ 300) (ha : ar ≤ 300) (hc : c < 256) (hL : isL c = true) (hle : 6 ≤ le) (hq40 : ((c : Int) == 40) = false) :
    Calls Tryz.prog 112 #[.pointer (some ⟨xb, 0, none⟩), .int .u8 c] w (NextEnd xb ⟨3, n, le, ar⟩ c w) := by
  have c0 := hX.c0
  have c1 := hX.c1
  have c2 := hX.c2
  have c3 := hX.c3
  have f0 := hX.fz 0
  have f1 := hX.fz 1
  have f2 := hX.fz 2
  have f3 := hX.fz 3
  have HX : Hid (Scn w xb ⟨3, n, le, ar⟩) := hX
  have HN : Hid (nx ⟨3, n, le, ar⟩ c = none) := show nx ⟨3, n, le, ar⟩ c = none by
    have e_c40 : ¬ c = 40 := by have := hq40; simp at this; omega
    simp [nx, hL, show ¬ le < 6 by omega, e_c40]
  clear hX
  go_enter Tryz.func112, Tryz.ntmps112
  go_wp2_with (go_at_call 82; refine (lettr _ _).mono ?_; rintro e w' ⟨rfl, rfl⟩)
  go_ret
  exact ne_no HN.out
set_option maxHeartbeats 1000000 in
set_option maxRecDepth 100000 in
theorem next3_2 (xb n le ar c : Nat) (w : World) (hX : Scn w xb ⟨3, n, le, ar⟩) (hn : n ≤ 300) (hl : le ≤ 300) (ha : ar ≤ 300) (hc : c < 256) (hL : isL c = false) (hq40 : ((c : Int) == 40) = true) :
    Calls Tryz.prog 112 #[.pointer (some ⟨xb, 0, none⟩), .int .u8 c] w (NextEnd xb ⟨3, n, le, ar⟩ c w) := by
  have c0 := hX.c0
  have c1 := hX.c1
  have c2 := hX.c2
  have c3 := hX.c3
  have f0 := hX.fz 0
  have f1 := hX.fz 1
  have f2 := hX.fz 2
  have f3 := hX.fz 3
  have HX : Hid (Scn w xb ⟨3, n, le, ar⟩) := hX
  have HN : Hid (nx ⟨3, n, le, ar⟩ c = some ⟨4, n, le, 0⟩) := show nx ⟨3, n, le, ar⟩ c = some ⟨4, n, le, 0⟩ by
    have e_c40 : c = 40 := by have := hq40; simp at this; omega
    simp [nx, e_c40, isL]
  clear hX
  go_enter Tryz.func112, Tryz.ntmps112
  go_wp2_with (go_at_call 82; refine (lettr _ _).mono ?_; rintro e w' ⟨rfl, rfl⟩)
  go_ret
  exact ne_yes HN.out ((HX.out.set3 0).set0 4) (mod2 xb 3 0 _ _ _)
set_option maxHeartbeats 1000000 in
set_option maxRecDepth 100000 in
theorem next3_3 (xb n le ar c : Nat) (w : World) (hX : Scn w xb ⟨3, n, le, ar⟩) (hn : n ≤ 300) (hl : le ≤ 300) (ha : ar ≤ 300) (hc : c < 256) (hL : isL c = false) (hq40 : ((c : Int) == 40) = false) :
    Calls Tryz.prog 112 #[.pointer (some ⟨xb, 0, none⟩), .int .u8 c] w (NextEnd xb ⟨3, n, le, ar⟩ c w) := by
  have c0 := hX.c0
  have c1 := hX.c1
  have c2 := hX.c2
  have c3 := hX.c3
  have f0 := hX.fz 0
  have f1 := hX.fz 1
  have f2 := hX.fz 2
  have f3 := hX.fz 3
  have HX : Hid (Scn w xb ⟨3, n, le, ar⟩) := hX
  have HN : Hid (nx ⟨3, n, le, ar⟩ c = none) := show nx ⟨3, n, le, ar⟩ c = none by
    have e_c40 : ¬ c = 40 := by have := hq40; simp at this; omega
    simp [nx, hL, e_c40]
  clear hX
  go_enter Tryz.func112, Tryz.ntmps112
  go_wp2_with (go_at_call 82; refine (lettr _ _).mono ?_; rintro e w' ⟨rfl, rfl⟩)
  go_ret
  exact ne_no HN.out
set_option maxHeartbeats 1000000 in
set_option maxRecDepth 100000 in
theorem next4_0 (xb n le ar c : Nat) (w : World) (hX : Scn w xb ⟨4, n, le, ar⟩) (hn : n ≤ 300) (hl : le ≤ 300) (ha : ar ≤ 300) (hc : c < 256) (hL : isL c = true) :
    Calls Tryz.prog 112 #[.pointer (some ⟨xb, 0, none⟩), .int .u8 c] w (NextEnd xb ⟨4, n, le, ar⟩ c w) := by
  have c0 := hX.c0
  have c1 := hX.c1
  have c2 := hX.c2
  have c3 := hX.c3
  have f0 := hX.fz 0
  have f1 := hX.fz 1
  have f2 := hX.fz 2
  have f3 := hX.fz 3
  have HX : Hid (Scn w xb ⟨4, n, le, ar⟩) := hX
  have HN : Hid (nx ⟨4, n, le, ar⟩ c = some ⟨5, n, le, ar + 1⟩) := show nx ⟨4, n, le, ar⟩ c = some ⟨5, n, le, ar + 1⟩ by
    simp [nx, hL]
  clear hX
  go_enter Tryz.func112, Tryz.ntmps112
  go_wp2_with (go_at_call 82; refine (lettr _ _).mono ?_; rintro e w' ⟨rfl, rfl⟩)
  go_ret
  exact ne_yes HN.out ((HX.out.set3 (ar + 1)).set0 5) (mod2 xb 3 0 _ _ _)
set_option maxHeartbeats 1000000 in
set_option maxRecDepth 100000 in
theorem next4_1 (xb n le ar c : Nat) (w : World) (hX : Scn w xb ⟨4, n, le, ar⟩) (hn : n ≤ 300) (hl : le ≤ 300) (ha : ar ≤ 300) (hc : c < 256) (hL : isL c = false) (hq41 : ((c : Int) == 41) = true) :
    Calls Tryz.prog 112 #[.pointer (some ⟨xb, 0, none⟩), .int .u8 c] w (NextEnd xb ⟨4, n, le, ar⟩ c w) := by
  have c0 := hX.c0
  have c1 := hX.c1
  have c2 := hX.c2
  have c3 := hX.c3
  have f0 := hX.fz 0
  have f1 := hX.fz 1
  have f2 := hX.fz 2
  have f3 := hX.fz 3
  have HX : Hid (Scn w xb ⟨4, n, le, ar⟩) := hX
  have HN : Hid (nx ⟨4, n, le, ar⟩ c = some ⟨7, n, le, ar⟩) := show nx ⟨4, n, le, ar⟩ c = some ⟨7, n, le, ar⟩ by
    have e_c41 : c = 41 := by have := hq41; simp at this; omega
    simp [nx, e_c41, isL]
  clear hX
  go_enter Tryz.func112, Tryz.ntmps112
  go_wp2_with (go_at_call 82; refine (lettr _ _).mono ?_; rintro e w' ⟨rfl, rfl⟩)
  go_ret
  exact ne_yes HN.out (HX.out.set0 7) (mod1 xb 0 _ _)
set_option maxHeartbeats 1000000 in
set_option maxRecDepth 100000 in
theorem next4_2 (xb n le ar c : Nat) (w : World) (hX : Scn w xb ⟨4, n, le, ar⟩) (hn : n ≤ 300) (hl : le ≤ 300) (ha : ar ≤ 300) (hc : c < 256) (hL : isL c = false) (hq41 : ((c : Int) == 41) = false) :
    Calls Tryz.prog 112 #[.pointer (some ⟨xb, 0, none⟩), .int .u8 c] w (NextEnd xb ⟨4, n, le, ar⟩ c w) := by
  have c0 := hX.c0
  have c1 := hX.c1
  have c2 := hX.c2
  have c3 := hX.c3
  have f0 := hX.fz 0
  have f1 := hX.fz 1
  have f2 := hX.fz 2
  have f3 := hX.fz 3
  have HX : Hid (Scn w xb ⟨4, n, le, ar⟩) := hX
  have HN : Hid (nx ⟨4, n, le, ar⟩ c = none) := show nx ⟨4, n, le, ar⟩ c = none by
    have e_c41 : ¬ c = 41 := by have := hq41; simp at this; omega
    simp [nx, hL, e_c41]
  clear hX
  go_enter Tryz.func112, Tryz.ntmps112
  go_wp2_with (go_at_call 82; refine (lettr _ _).mono ?_; rintro e w' ⟨rfl, rfl⟩)
  go_ret
  exact ne_no HN.out
end Go.Proofs.YtmnfndpbblpjiaaGreatDoor

/- The scanner's step, state by state. -/
namespace Go.Proofs.YtmnfndpbblpjiaaGreatDoor
set_option linter.unusedVariables false
open Go.RowKit Pu
set_option maxHeartbeats 1000000 in
set_option maxRecDepth 100000 in
theorem next5_0 (xb n le ar c : Nat) (w : World) (hX : Scn w xb ⟨5, n, le, ar⟩) (hn : n ≤ 300) (hl : le ≤ 300) (ha : ar ≤ 300) (hc : c < 256) (hq41 : ((c : Int) == 41) = true) :
    Calls Tryz.prog 112 #[.pointer (some ⟨xb, 0, none⟩), .int .u8 c] w (NextEnd xb ⟨5, n, le, ar⟩ c w) := by
  have c0 := hX.c0
  have c1 := hX.c1
  have c2 := hX.c2
  have c3 := hX.c3
  have f0 := hX.fz 0
  have f1 := hX.fz 1
  have f2 := hX.fz 2
  have f3 := hX.fz 3
  have HX : Hid (Scn w xb ⟨5, n, le, ar⟩) := hX
  have HN : Hid (nx ⟨5, n, le, ar⟩ c = some ⟨7, n, le, ar⟩) := show nx ⟨5, n, le, ar⟩ c = some ⟨7, n, le, ar⟩ by
    have e_c41 : c = 41 := by have := hq41; simp at this; omega
    simp [nx, e_c41]
  clear hX
  go_enter Tryz.func112, Tryz.ntmps112
  go_wp2_with (go_at_call 82; refine (lettr _ _).mono ?_; rintro e w' ⟨rfl, rfl⟩)
  go_ret
  exact ne_yes HN.out (HX.out.set0 7) (mod1 xb 0 _ _)
set_option maxHeartbeats 1000000 in
set_option maxRecDepth 100000 in
theorem next5_1 (xb n le ar c : Nat) (w : World) (hX : Scn w xb ⟨5, n, le, ar⟩) (hn : n ≤ 300) (hl : le ≤ 300) (ha : ar ≤ 300) (hc : c < 256) (hq41 : ((c : Int) == 41) = false) (hq44 : ((c : Int) == 44) = true) (hae : ar < 4) :
    Calls Tryz.prog 112 #[.pointer (some ⟨xb, 0, none⟩), .int .u8 c] w (NextEnd xb ⟨5, n, le, ar⟩ c w) := by
  have c0 := hX.c0
  have c1 := hX.c1
  have c2 := hX.c2
  have c3 := hX.c3
  have f0 := hX.fz 0
  have f1 := hX.fz 1
  have f2 := hX.fz 2
  have f3 := hX.fz 3
  have HX : Hid (Scn w xb ⟨5, n, le, ar⟩) := hX
  have HN : Hid (nx ⟨5, n, le, ar⟩ c = some ⟨6, n, le, ar⟩) := show nx ⟨5, n, le, ar⟩ c = some ⟨6, n, le, ar⟩ by
    have e_c41 : ¬ c = 41 := by have := hq41; simp at this; omega
    have e_c44 : c = 44 := by have := hq44; simp at this; omega
    simp [nx, e_c44, hae]
  clear hX
  go_enter Tryz.func112, Tryz.ntmps112
  go_wp2_with (go_at_call 82; refine (lettr _ _).mono ?_; rintro e w' ⟨rfl, rfl⟩)
  go_ret
  exact ne_yes HN.out (HX.out.set0 6) (mod1 xb 0 _ _)
set_option maxHeartbeats 1000000 in
set_option maxRecDepth 100000 in
theorem next5_2 (xb n le ar c : Nat) (w : World) (hX : Scn w xb ⟨5, n, le, ar⟩) (hn : n ≤ 300) (hl : le ≤ 300) (ha : ar ≤ 300) (hc : c < 256) (hq41 : ((c : Int) == 41) = false) (hq44 : ((c : Int) == 44) = true) (hae : 4 ≤ ar) :
    Calls Tryz.prog 112 #[.pointer (some ⟨xb, 0, none⟩), .int .u8 c] w (NextEnd xb ⟨5, n, le, ar⟩ c w) := by
  have c0 := hX.c0
  have c1 := hX.c1
  have c2 := hX.c2
  have c3 := hX.c3
  have f0 := hX.fz 0
  have f1 := hX.fz 1
  have f2 := hX.fz 2
  have f3 := hX.fz 3
  have HX : Hid (Scn w xb ⟨5, n, le, ar⟩) := hX
  have HN : Hid (nx ⟨5, n, le, ar⟩ c = none) := show nx ⟨5, n, le, ar⟩ c = none by
    have e_c41 : ¬ c = 41 := by have := hq41; simp at this; omega
    have e_c44 : c = 44 := by have := hq44; simp at this; omega
    simp [nx, e_c44, show ¬ ar < 4 by omega]
  clear hX
  go_enter Tryz.func112, Tryz.ntmps112
  go_wp2_with (go_at_call 82; refine (lettr _ _).mono ?_; rintro e w' ⟨rfl, rfl⟩)
  go_ret
  exact ne_no HN.out
set_option maxHeartbeats 1000000 in
set_option maxRecDepth 100000 in
theorem next5_3 (xb n le ar c : Nat) (w : World) (hX : Scn w xb ⟨5, n, le, ar⟩) (hn : n ≤ 300) (hl : le ≤ 300) (ha : ar ≤ 300) (hc : c < 256) (hq41 : ((c : Int) == 41) = false) (hq44 : ((c : Int) == 44) = false) :
    Calls Tryz.prog 112 #[.pointer (some ⟨xb, 0, none⟩), .int .u8 c] w (NextEnd xb ⟨5, n, le, ar⟩ c w) := by
  have c0 := hX.c0
  have c1 := hX.c1
  have c2 := hX.c2
  have c3 := hX.c3
  have f0 := hX.fz 0
  have f1 := hX.fz 1
  have f2 := hX.fz 2
  have f3 := hX.fz 3
  have HX : Hid (Scn w xb ⟨5, n, le, ar⟩) := hX
  have HN : Hid (nx ⟨5, n, le, ar⟩ c = none) := show nx ⟨5, n, le, ar⟩ c = none by
    have e_c41 : ¬ c = 41 := by have := hq41; simp at this; omega
    have e_c44 : ¬ c = 44 := by have := hq44; simp at this; omega
    simp [nx, e_c41, e_c44]
  clear hX
  go_enter Tryz.func112, Tryz.ntmps112
  go_wp2_with (go_at_call 82; refine (lettr _ _).mono ?_; rintro e w' ⟨rfl, rfl⟩)
  go_ret
  exact ne_no HN.out
set_option maxHeartbeats 1000000 in
set_option maxRecDepth 100000 in
theorem next6_0 (xb n le ar c : Nat) (w : World) (hX : Scn w xb ⟨6, n, le, ar⟩) (hn : n ≤ 300) (hl : le ≤ 300) (ha : ar ≤ 300) (hc : c < 256) (hL : isL c = true) :
    Calls Tryz.prog 112 #[.pointer (some ⟨xb, 0, none⟩), .int .u8 c] w (NextEnd xb ⟨6, n, le, ar⟩ c w) := by
  have c0 := hX.c0
  have c1 := hX.c1
  have c2 := hX.c2
  have c3 := hX.c3
  have f0 := hX.fz 0
  have f1 := hX.fz 1
  have f2 := hX.fz 2
  have f3 := hX.fz 3
  have HX : Hid (Scn w xb ⟨6, n, le, ar⟩) := hX
  have HN : Hid (nx ⟨6, n, le, ar⟩ c = some ⟨5, n, le, ar + 1⟩) := show nx ⟨6, n, le, ar⟩ c = some ⟨5, n, le, ar + 1⟩ by
    simp [nx, hL]
  clear hX
  go_enter Tryz.func112, Tryz.ntmps112
  go_wp2_with (go_at_call 82; refine (lettr _ _).mono ?_; rintro e w' ⟨rfl, rfl⟩)
  go_ret
  exact ne_yes HN.out ((HX.out.set3 (ar + 1)).set0 5) (mod2 xb 3 0 _ _ _)
set_option maxHeartbeats 1000000 in
set_option maxRecDepth 100000 in
theorem next6_1 (xb n le ar c : Nat) (w : World) (hX : Scn w xb ⟨6, n, le, ar⟩) (hn : n ≤ 300) (hl : le ≤ 300) (ha : ar ≤ 300) (hc : c < 256) (hL : isL c = false) :
    Calls Tryz.prog 112 #[.pointer (some ⟨xb, 0, none⟩), .int .u8 c] w (NextEnd xb ⟨6, n, le, ar⟩ c w) := by
  have c0 := hX.c0
  have c1 := hX.c1
  have c2 := hX.c2
  have c3 := hX.c3
  have f0 := hX.fz 0
  have f1 := hX.fz 1
  have f2 := hX.fz 2
  have f3 := hX.fz 3
  have HX : Hid (Scn w xb ⟨6, n, le, ar⟩) := hX
  have HN : Hid (nx ⟨6, n, le, ar⟩ c = none) := show nx ⟨6, n, le, ar⟩ c = none by
    simp [nx, hL]
  clear hX
  go_enter Tryz.func112, Tryz.ntmps112
  go_wp2_with (go_at_call 82; refine (lettr _ _).mono ?_; rintro e w' ⟨rfl, rfl⟩)
  go_ret
  exact ne_no HN.out
set_option maxHeartbeats 1000000 in
set_option maxRecDepth 100000 in
theorem next7_0 (xb n le ar c : Nat) (w : World) (hX : Scn w xb ⟨7, n, le, ar⟩) (hn : n ≤ 300) (hl : le ≤ 300) (ha : ar ≤ 300) (hc : c < 256) (hq59 : ((c : Int) == 59) = true) :
    Calls Tryz.prog 112 #[.pointer (some ⟨xb, 0, none⟩), .int .u8 c] w (NextEnd xb ⟨7, n, le, ar⟩ c w) := by
  have c0 := hX.c0
  have c1 := hX.c1
  have c2 := hX.c2
  have c3 := hX.c3
  have f0 := hX.fz 0
  have f1 := hX.fz 1
  have f2 := hX.fz 2
  have f3 := hX.fz 3
  have HX : Hid (Scn w xb ⟨7, n, le, ar⟩) := hX
  have HN : Hid (nx ⟨7, n, le, ar⟩ c = some ⟨0, n + 1, le, ar⟩) := show nx ⟨7, n, le, ar⟩ c = some ⟨0, n + 1, le, ar⟩ by
    have e_c59 : c = 59 := by have := hq59; simp at this; omega
    simp [nx, e_c59]
  clear hX
  go_enter Tryz.func112, Tryz.ntmps112
  go_wp2_with (go_at_call 82; refine (lettr _ _).mono ?_; rintro e w' ⟨rfl, rfl⟩)
  go_ret
  exact ne_yes HN.out ((HX.out.set1 (n + 1)).set0 0) (mod2 xb 1 0 _ _ _)
set_option maxHeartbeats 1000000 in
set_option maxRecDepth 100000 in
theorem next7_1 (xb n le ar c : Nat) (w : World) (hX : Scn w xb ⟨7, n, le, ar⟩) (hn : n ≤ 300) (hl : le ≤ 300) (ha : ar ≤ 300) (hc : c < 256) (hq59 : ((c : Int) == 59) = false) :
    Calls Tryz.prog 112 #[.pointer (some ⟨xb, 0, none⟩), .int .u8 c] w (NextEnd xb ⟨7, n, le, ar⟩ c w) := by
  have c0 := hX.c0
  have c1 := hX.c1
  have c2 := hX.c2
  have c3 := hX.c3
  have f0 := hX.fz 0
  have f1 := hX.fz 1
  have f2 := hX.fz 2
  have f3 := hX.fz 3
  have HX : Hid (Scn w xb ⟨7, n, le, ar⟩) := hX
  have HN : Hid (nx ⟨7, n, le, ar⟩ c = none) := show nx ⟨7, n, le, ar⟩ c = none by
    have e_c59 : ¬ c = 59 := by have := hq59; simp at this; omega
    simp [nx, e_c59]
  clear hX
  go_enter Tryz.func112, Tryz.ntmps112
  go_wp2_with (go_at_call 82; refine (lettr _ _).mono ?_; rintro e w' ⟨rfl, rfl⟩)
  go_ret
  exact ne_no HN.out
end Go.Proofs.YtmnfndpbblpjiaaGreatDoor

/- The scanner's step at every state, and place. -/
namespace Go.Proofs.YtmnfndpbblpjiaaGreatDoor
open Go.RowKit Pu
theorem Pu.nx_bound {x y : Sc} {c : Nat} (h : nx x c = some y) : y.st ≤ 7 ∧ y.n ≤ x.n + 1 ∧ y.le ≤ x.le + 1 ∧ y.ar ≤ x.ar + 1 := by
  unfold nx at h
  repeat' (split at h)
  all_goals first | (simp at h; done) | (injection h with h; subst h; simp)
theorem Pu.stA_bound {s : ByteArray} : ∀ {k : Nat} {x : Sc}, stA s k = some x → x.st ≤ 7 ∧ x.n ≤ k ∧ x.le ≤ k ∧ x.ar ≤ k := by
  intro k
  induction k with
  | zero => intro x h; simp [stA] at h; subst h; simp
  | succ k ih =>
    intro y h
    obtain ⟨x, hx, hn⟩ := stA_back h
    have := ih hx
    have := nx_bound hn
    omega
theorem next_any (xb : Nat) (x : Sc) (c : Nat) (w : World) (hX : Scn w xb x) (hst : x.st ≤ 7) (hn : x.n ≤ 300) (hl : x.le ≤ 300) (ha : x.ar ≤ 300) (hc : c < 256) :
    Calls Tryz.prog 112 #[.pointer (some ⟨xb, 0, none⟩), .int .u8 c] w (NextEnd xb x c w) := by
  obtain ⟨st, n, le, ar⟩ := x
  have hLf : ∀ {b : Prop}, (isL c = true → b) → (isL c = false → b) → b := fun p q => by
    cases h : isL c
    · exact q h
    · exact p h
  simp only at hst hn hl ha
  match st, hst with
  | 0, _ =>
    by_cases h16 : n = 16
    · exact next0_0 xb n le ar c w hX hn hl ha hc (beq_t (m := 16) h16)
    · by_cases h63 : c = 63
      · exact next0_1 xb n le ar c w hX hn hl ha hc (beq_f (m := 16) h16) (beq_t (m := 63) h63)
      · exact hLf (fun h => next0_2 xb n le ar c w hX hn hl ha hc (beq_f (m := 16) h16) (beq_f (m := 63) h63) h) (fun h => next0_3 xb n le ar c w hX hn hl ha hc (beq_f (m := 16) h16) (beq_f (m := 63) h63) h)
  | 1, _ =>
    by_cases h61 : c = 61
    · exact next1_0 xb n le ar c w hX hn hl ha hc (beq_t (m := 61) h61)
    · exact next1_1 xb n le ar c w hX hn hl ha hc (beq_f (m := 61) h61)
  | 2, _ => exact hLf (fun h => next2_0 xb n le ar c w hX hn hl ha hc h) (fun h => next2_1 xb n le ar c w hX hn hl ha hc h)
  | 3, _ =>
    refine hLf (fun h => ?_) (fun h => ?_)
    · by_cases hle : le < 6
      · exact next3_0 xb n le ar c w hX hn hl ha hc h hle
      · exact next3_1 xb n le ar c w hX hn hl ha hc h (by omega) (beq_f (m := 40) (by have := (isL_iff c).1 h; omega))
    · by_cases h40 : c = 40
      · exact next3_2 xb n le ar c w hX hn hl ha hc h (beq_t (m := 40) h40)
      · exact next3_3 xb n le ar c w hX hn hl ha hc h (beq_f (m := 40) h40)
  | 4, _ =>
    refine hLf (fun h => next4_0 xb n le ar c w hX hn hl ha hc h) (fun h => ?_)
    by_cases h41 : c = 41
    · exact next4_1 xb n le ar c w hX hn hl ha hc h (beq_t (m := 41) h41)
    · exact next4_2 xb n le ar c w hX hn hl ha hc h (beq_f (m := 41) h41)
  | 5, _ =>
    by_cases h41 : c = 41
    · exact next5_0 xb n le ar c w hX hn hl ha hc (beq_t (m := 41) h41)
    · by_cases h44 : c = 44
      · by_cases hae : ar < 4
        · exact next5_1 xb n le ar c w hX hn hl ha hc (beq_f (m := 41) h41) (beq_t (m := 44) h44) hae
        · exact next5_2 xb n le ar c w hX hn hl ha hc (beq_f (m := 41) h41) (beq_t (m := 44) h44) (by omega)
      · exact next5_3 xb n le ar c w hX hn hl ha hc (beq_f (m := 41) h41) (beq_f (m := 44) h44)
  | 6, _ => exact hLf (fun h => next6_0 xb n le ar c w hX hn hl ha hc h) (fun h => next6_1 xb n le ar c w hX hn hl ha hc h)
  | 7, _ =>
    by_cases h59 : c = 59
    · exact next7_0 xb n le ar c w hX hn hl ha hc (beq_t (m := 59) h59)
    · exact next7_1 xb n le ar c w hX hn hl ha hc (beq_f (m := 59) h59)
set_option maxHeartbeats 800000 in
set_option maxRecDepth 100000 in
theorem place_any (s : ByteArray) (w : World) (hs : s.size ≤ 300) :
    Calls Tryz.prog 66 #[.string s] w fun e w' => Mod (fun _ => False) w w' ∧ ((e = .returned (.int .i64 (-1)) ∧ Whole s) ∨ ∃ k : Nat, e = .returned (.int .i64 k) ∧ Stuck s k) := by
  go_enter Tryz.func66, Tryz.ntmps66
  go_wp2
  have hX0 : Scn (w.alloc (.cells #[.int .i64 0, .int .i64 0, .int .i64 0, .int .i64 0] 167)) w.heap.size ⟨0, 0, 0, 0⟩ := by unfold Scn; show (w.heap.push _)[w.heap.size]? = _; simp
  go_loopw [4] (fun i wr => ∃ (k : Nat) (x : Sc), k ≤ s.size ∧ i = .int .i64 k ∧ Scn wr w.heap.size x ∧ stA s k = some x ∧ Mod (fun _ => False) w wr) (fun i _ => s.size - (intOf i).toNat)
  case atStart => exact ⟨0, _, by omega, rfl, hX0, rfl, (Mod.refl _ w).alloc _⟩
  case round =>
    clear hX0
    obtain ⟨k, x, hk, rfl, hX, hst, hm⟩ := hrel
    have hsz := hm.size
    have hbd := stA_bound hst
    have HST : Hid (stA s k = some x) := hst
    clear hst
    by_cases hlt : k < s.size
    · have hg := g_in hlt
      have HG : Hid (g s k = s[k].toNat) := hg
      have hgl := g_lt s k
      clear hg
      go_wp2_with fail
      have hN := next_any w.heap.size x (g s k) wr hX hbd.1 (by omega) (by omega) (by omega) hgl
      rw [HG.out] at hN
      refine hN.mono ?_
      rintro e w2 (⟨hn, rfl, rfl⟩ | ⟨y, hn, rfl, hY, hm2⟩)
      · rw [← HG.out] at hn
        have HN : Hid (nx x (g s k) = none) := hn
        clear hn hN
        go_wp2
        go_ret
        exact ⟨hm, .inr ⟨k, rfl, x, HST.out, .inl ⟨hlt, HN.out⟩⟩⟩
      · rw [← HG.out] at hn
        have HN : Hid (nx x (g s k) = some y) := hn
        have hm3 : Mod (fun _ => False) w w2 := ⟨hm2.os.trans hm.os, hm2.tape.trans hm.tape, hm2.output.trans hm.output, Nat.le_trans hm.size hm2.size, fun i hi _ => (hm2.block i (by omega) (by omega)).trans (hm.block i hi (fun f => f))⟩
        clear hn hN hm hm2 hX
        go_wp2
        go_roundw
        case rel => exact ⟨k + 1, y, by omega, by go_num, hY, stA_succ HST.out HN.out, hm3⟩
        case measure => simp [intOf]; omega
    · have hks : k = s.size := by omega
      subst hks
      obtain ⟨st, n, le, ar⟩ := x
      have c0 := hX.c0
      by_cases h0 : st = 0
      · subst h0
        go_wp2
        go_ret
        exact ⟨hm, .inl ⟨rfl, _, HST.out, rfl⟩⟩
      · have hq : ((st : Int) != 0) = true := by rw [bne_iff_ne]; omega
        go_wp2
        go_ret
        exact ⟨hm, .inr ⟨s.size, rfl, _, HST.out, .inr ⟨rfl, h0⟩⟩⟩
end Go.Proofs.YtmnfndpbblpjiaaGreatDoor

/- The document's weight of a statement. -/
namespace Go.Proofs.YtmnfndpbblpjiaaGreatDoor
open Go.RowKit Pu
theorem gv_take {p : List (St × Nat)} {i : Nat} {l : List St} (h : sts p = l.take p.length) (hi : i ≤ p.length) : sts (p.take i) = l.take i := by
  have : sts (p.take i) = (sts p).take i := by simp [sts]
  rw [this, h, List.take_take]; congr 1; omega
set_option maxHeartbeats 1600000 in
set_option maxRecDepth 100000 in
theorem weight_step (v : Value) (l : List St) (base i : Nat) (w : World) (p : List (St × Nat)) (hl : l.length ≤ 1000) (hi : i < l.length) (hL : RLst w base v l) (hok : Ok p) (hp : sts p = l.take p.length) (hip : i ≤ p.length)
    (hg : ∀ a ∈ l[i].args, gvI (l.take i) a.toNat ≠ -1) (h4 : l[i].args.length ≤ 4)
    (ih : ∀ j (hj : j < p.length), j < i → Calls Tryz.prog 70 #[v, .int .i64 j] w fun e w' => e = .returned (.int .i64 p[j].2) ∧ w = w') :
    Calls Tryz.prog 70 #[v, .int .i64 i] w fun e w' => e = .returned (.int .i64 (wgh (p.take i) l[i])) ∧ w = w' := by
  obtain ⟨ao, cap, rfl, -⟩ := owns_form hL
  obtain ⟨gb, rfl, c0, c1, c2⟩ := hL.cell hi
  have IH : Hid (∀ j (hj : j < p.length), j < i → Calls Tryz.prog 70 #[.slice (some ⟨gb, 0, none⟩) l.length cap, .int .i64 j] w fun e w' => e = .returned (.int .i64 p[j].2) ∧ w = w') := ih
  clear ih
  have hst := gv_take hp hip
  have hoki : Ok (p.take i) := fun j hj => by
    have hj' : j < p.length := by simp at hj; omega
    have hji : j < i := by simp at hj; omega
    have := hok j hj'
    rw [List.take_take, show min j i = j by omega, List.getElem_take]; exact this
  have HO : Hid (Ok (p.take i)) := hoki
  have HG : Hid (∀ a ∈ l[i].args, gvI (l.take i) a.toNat ≠ -1) := hg
  have HST : Hid (sts (p.take i) = l.take i) := hst
  have HWG : Hid (∀ nm wd ag, l[i] = ⟨nm, wd, ag⟩ → wgh (p.take i) l[i] = if nm = 0 then 0 else wG wd (sumW (p.take i) ag) (lastW (p.take i) ag)) := fun nm wd ag h => by rw [h]; rfl
  clear hst hoki hg hp hok
  generalize hx : l[i] = x at *
  obtain ⟨nm, wd, ag⟩ := x
  simp only at c0 c1 c2 h4 HG
  have HWG2 : Hid (wgh (p.take i) ⟨nm, wd, ag⟩ = if nm = 0 then 0 else wG wd (sumW (p.take i) ag) (lastW (p.take i) ag)) := rfl
  clear HWG hx
  generalize wgh (p.take i) ⟨nm, wd, ag⟩ = res at *
  by_cases h0 : nm = 0
  · have hb : ((nm : Int) == 0) = true := beq_t (m := 0) h0
    have HR : Hid (res = 0) := show res = 0 by rw [HWG2.out, if_pos h0]
    clear h0
    go_enter Tryz.func70, Tryz.ntmps70
    go_wp2_with fail
    go_ret
    exact ⟨by rw [HR.out]; rfl, rfl⟩
  · have hb : ((nm : Int) == 0) = false := beq_f (m := 0) h0
    have HR : Hid (res = wG wd (sumW (p.take i) ag) (lastW (p.take i) ag)) := show res = wG wd (sumW (p.take i) ag) (lastW (p.take i) ag) by rw [HWG2.out, if_neg h0]
    clear h0 HWG2
    cases hpt : (wd == [112, 116]) with
    | true =>
      have HR2 : Hid (res = 1) := show res = 1 by rw [HR.out]; simp [wG, hpt]
      go_enter Tryz.func70, Tryz.ntmps70
      go_wp2_with fail
      go_ret
      exact ⟨by rw [HR2.out]; rfl, rfl⟩
    | false =>
      go_enter Tryz.func70, Tryz.ntmps70
      go_wp2_with fail
      go_loop [5, 6, 7] (fun a b i' => ∃ k : Nat, k ≤ ag.length ∧ i' = .int .i64 k ∧ a = .int .i64 (sumW (p.take i) (ag.take k)) ∧ b = .int .i64 (lastW (p.take i) (ag.take k))) (fun _ _ i' => ag.length - (intOf i').toNat)
      case atStart => exact ⟨0, by omega, rfl, rfl, rfl⟩
      case round =>
        obtain ⟨k, hk, rfl, rfl, rfl⟩ := hrel
        have b1 := HO.out.sumW (ag.take k)
        have b2 := HO.out.lastW (ag.take k)
        have b3 : (ag.take k).length ≤ k := List.length_take_le _ _
        by_cases hlt : k < ag.length
        · have HT : Hid (ag.take (k + 1) = ag.take k ++ [ag[k]]) := take_snoc' _ _ hlt
          obtain ⟨j, hj, hgj, -⟩ := given_lt (p := p.take i) (nm := ag[k].toNat) (by rw [HST.out]; exact HG.out _ (List.getElem_mem hlt))
          have hji : j < i := by simp at hj; omega
          have hjp : j < p.length := by simp at hj; omega
          have HW : Hid (argW (p.take i) ag[k].toNat = p[j].2) := show argW (p.take i) ag[k].toNat = p[j].2 by simp [argW, who_of hj hgj]
          have hwb : p[j].2 ≤ 64 := by have := HO.out.argW ag[k].toNat; rw [HW.out] at this; exact this
          have HJ : Hid (gvI (l.take i) ag[k].toNat = (j : Int)) := show gvI (l.take i) ag[k].toNat = (j : Int) by rw [← HST.out]; exact hgj
          clear hgj hj
          have hso : ∀ h, (⟨ag.toArray⟩ : ByteArray)[k]'h = ag[k] := fun _ => rfl
          go_wp2_with fail
          have hgv := given_any (.slice (some ⟨gb, 0, none⟩) l.length cap) l i ag[k].toNat base w hl (by omega) hL
          rw [HJ.out] at hgv
          refine hgv.mono ?_
          rintro e w2 ⟨rfl, rfl⟩
          clear hgv
          go_wp2_with fail
          refine (IH.out j hjp hji).mono ?_
          rintro e w2 ⟨rfl, rfl⟩
          go_wp2_with fail
          go_round
          case rel => exact ⟨k + 1, by omega, by go_num, by rw [HT.out, sumW_snoc, HW.out]; go_num, by rw [HT.out, lastW_snoc, HW.out]⟩
          case measure => simp [intOf]; omega
        · have hkl : k = ag.length := by omega
          subst hkl
          rw [List.take_length] at b1 b2 ⊢
          clear b3
          cases hf : (wd == [102, 111, 111, 116]) with
          | true =>
            have HR2 : Hid (res = sumW (p.take i) ag + lastW (p.take i) ag) := show res = sumW (p.take i) ag + lastW (p.take i) ag by rw [HR.out]; simp [wG, hpt, hf]
            go_wp2_with fail
            go_ret
            exact ⟨by rw [HR2.out]; rfl, rfl⟩
          | false =>
            cases hm : (wd == [109, 105, 114, 114, 111, 114]) with
            | true =>
              have HR2 : Hid (res = 2 * sumW (p.take i) ag) := show res = 2 * sumW (p.take i) ag by rw [HR.out]; simp [wG, hpt, hf, hm]
              go_wp2_with fail
              go_ret
              exact ⟨by rw [HR2.out]; rfl, rfl⟩
            | false =>
              cases hc : (wd == [99, 101, 110, 116, 114, 101]) with
              | true =>
                have HR2 : Hid (res = 4 * sumW (p.take i) ag) := show res = 4 * sumW (p.take i) ag by rw [HR.out]; simp [wG, hpt, hf, hm, hc]
                go_wp2_with fail
                go_ret
                exact ⟨by rw [HR2.out]; rfl, rfl⟩
              | false =>
                have HR2 : Hid (res = sumW (p.take i) ag) := show res = sumW (p.take i) ag by rw [HR.out]; simp [wG, hpt, hf, hm, hc]
                go_wp2_with fail
                go_ret
                exact ⟨by rw [HR2.out]; rfl, rfl⟩
theorem weight_at (v : Value) (l : List St) (base : Nat) (w : World) (p : List (St × Nat)) (hl : l.length ≤ 1000) (hL : RLst w base v l) (hok : Ok p) (hp : sts p = l.take p.length) (hpl : p.length ≤ l.length) :
    ∀ n j (hj : j < p.length), j < n → Calls Tryz.prog 70 #[v, .int .i64 j] w fun e w' => e = .returned (.int .i64 p[j].2) ∧ w = w' := by
  intro n
  induction n with
  | zero => intro j hj h; omega
  | succ n ih =>
    intro j hj hjn
    have hjl : j < l.length := by omega
    have hx : p[j].1 = l[j] := by
      have h1 : (sts p)[j]? = (l.take p.length)[j]? := by rw [hp]
      simp [sts, hj, hjl] at h1
      exact h1
    obtain ⟨he, hw⟩ := hok j hj
    have hz := err_zero he
    rw [hx] at hz hw
    have hn := hz.2.2.1
    rw [gv_take hp (by omega)] at hn
    have := weight_step v l base j w p hl hjl hL hok hp (by omega) (names_each hn) (by have := fm_len l[j].word; rw [hz.2.1]; omega) (fun i hi hij => ih i hi (by omega))
    rw [← hw] at this
    exact this
theorem weight_next (v : Value) (l : List St) (base : Nat) (w : World) (p : List (St × Nat)) (hl : l.length ≤ 1000) (hL : RLst w base v l) (hok : Ok p) (hp : sts p = l.take p.length) (hi : p.length < l.length)
    (hg : ∀ a ∈ l[p.length].args, gvI (sts p) a.toNat ≠ -1) (h4 : l[p.length].args.length ≤ 4) :
    Calls Tryz.prog 70 #[v, .int .i64 p.length] w fun e w' => e = .returned (.int .i64 (wgh p l[p.length])) ∧ w = w' := by
  have := weight_step v l base p.length w p hl hi hL hok hp (Nat.le_refl _) (by rw [← hp]; exact hg) h4 (fun j hj _ => weight_at v l base w p hl hL hok hp (by omega) (j + 1) j hj (by omega))
  rw [List.take_length] at this
  exact this
end Go.Proofs.YtmnfndpbblpjiaaGreatDoor
