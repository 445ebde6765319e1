/- A step that asks for Check. -/
import Derived.Test.YtmnfndpbblpjiaaGreatDoorRck
import Derived.Test.YtmnfndpbblpjiaaGreatDoorLaw
namespace Go.Proofs.YtmnfndpbblpjiaaGreatDoor
open Go.RowKit Pu

set_option maxHeartbeats 800000 in
set_option maxRecDepth 100000 in
theorem texts_check (n : Int) (a b : ByteArray) (w : World) (ha : a.size ≤ maxLen) : Calls Tryz.prog 22 #[op4 1 n a b] w fun e w' => e = .returned (.bool true) ∧ Mod (fun _ => False) w w' := by
  have hO := ope_new w 1 n a b
  have hm0 : Mod (fun _ => False) w (w.alloc (.cells #[.int .i64 1, .int .i64 n, .string a, .string b] 32)) := (Mod.refl _ w).alloc _
  by_cases hs : a.size ≤ 300
  · go_enter Tryz.func22, Tryz.ntmps22
    go_wp2_with fail
    refine (check_any a _ hs).mono ?_
    rintro e w1 ⟨⟨x, y, hA, rfl⟩, hm1⟩
    have hO1 := hO.keep hm1 (fun f => f)
    have c2 := hO1.c2
    go_wp2_with fail
    refine (rcheck_any a _ hs).mono ?_
    rintro e w2 ⟨⟨x', y', hA', rfl⟩, hm2⟩
    obtain ⟨rfl, rfl⟩ := hA.unique hA'
    have hm := hm0.trans (hm1.trans hm2)
    clear hA hA' hm0 hm1 hm2 c2 hO1 hO
    go_wp2_with (go_at_call 25; refine (num_any _ _).mono ?_; rintro e w' ⟨rfl, rfl⟩)
    go_ret
    exact ⟨rfl, hm⟩
  · go_enter Tryz.func22, Tryz.ntmps22
    go_wp2_with fail
    refine (check_long a _ (by omega) ha).mono ?_
    rintro e w1 ⟨rfl, rfl⟩
    have c2 := hO.c2
    go_wp2_with fail
    refine (rcheck_long a _ (by omega) ha).mono ?_
    rintro e w2 ⟨rfl, rfl⟩
    go_wp2_with (go_at_call 25; refine (num_any _ _).mono ?_; rintro e w' ⟨rfl, rfl⟩)
    go_ret
    exact ⟨rfl, hm0⟩

set_option maxHeartbeats 800000 in
set_option maxRecDepth 100000 in
theorem plays_check : Plays 1 1 := by
  intro kd n a b w h1 h2 ha hb hn
  obtain rfl : kd = 1 := by omega
  have hm0 : Mod (fun _ => False) w (w.alloc (.cells #[.int .i64 1, .int .i64 n, .string a, .string b] 32)) := (Mod.refl _ w).alloc _
  clear h1 h2 hb hn
  go_enter Tryz.func18, Tryz.ntmps18
  go_wp2_with fail
  refine (texts_check n a b _ ha).mono ?_
  rintro e w1 ⟨rfl, hm1⟩
  go_wp2_with fail
  go_ret
  exact ⟨rfl, hm0.trans hm1⟩

set_option maxHeartbeats 400000 in
theorem checks_walk (v : Value) (w : World) (hS : Scr w v) : Calls Tryz.prog 3 #[v] w fun e w' => e = .returned (.bool true) ∧ Mod (fun _ => False) w w' := by
  have HS : Hid (Scr w v) := hS
  clear hS
  go_enter Tryz.func3, Tryz.ntmps3
  go_wp2_with fail
  refine (upto_any v 1 1 w HS.out plays_check).mono ?_
  rintro e w1 ⟨rfl, hm1⟩
  go_wp2_with fail
  go_ret
  exact ⟨rfl, hm1⟩
end Go.Proofs.YtmnfndpbblpjiaaGreatDoor
