/- The program's Verify, and a step that asks for it. -/
import Derived.Test.YtmnfndpbblpjiaaGreatDoorZa21
import Derived.Test.YtmnfndpbblpjiaaGreatDoorZa22
import Derived.Test.YtmnfndpbblpjiaaGreatDoorZa07
namespace Go.Proofs.YtmnfndpbblpjiaaGreatDoor
open Go.RowKit Pu
set_option maxHeartbeats 400000 in
theorem verify_long (s : ByteArray) (w : World) (hs : 8006 < s.size) (hm : s.size ≤ maxLen) : Calls Tryz.prog 38 #[.string s] w fun e w' => e = .returned (.tuple #[.int .i64 1, .int .i64 0]) ∧ Mod (fun _ => False) w w' := by
  have hd := dec_long s w hs hm
  unfold maxLen at hm
  go_enter Tryz.func38, Tryz.ntmps38
  go_wp2_with fail
  refine hd.mono ?_
  rintro e w1 ⟨rfl, hm1⟩
  go_wp2_with fail
  go_ret2
  exact ⟨rfl, hm1.alloc _⟩
set_option maxHeartbeats 400000 in
theorem verify_any (s : ByteArray) (w : World) (hs : s.size ≤ 8006) : Calls Tryz.prog 38 #[.string s] w fun e w' => e = .returned (.tuple #[.int .i64 (vfy s).1, .int .i64 (vfy s).2]) ∧ Mod (fun _ => False) w w' := by
  go_enter Tryz.func38, Tryz.ntmps38
  go_wp2_with fail
  refine (dec_any s w hs).mono ?_
  rintro e w1 ⟨⟨a, b, ao, n, cap, rfl, -⟩, hm1⟩
  go_wp2_with fail
  go_ret2
  exact ⟨rfl, hm1.alloc _⟩
end Go.Proofs.YtmnfndpbblpjiaaGreatDoor

/- The program's Verify, and a step that asks for it. -/
namespace Go.Proofs.YtmnfndpbblpjiaaGreatDoor
open Go.RowKit Pu
set_option maxHeartbeats 800000 in
set_option maxRecDepth 100000 in
theorem texts_verify (n : Int) (a b : ByteArray) (w : World) (ha : a.size ≤ maxLen) : Calls Tryz.prog 22 #[op4 3 n a b] w fun e w' => e = .returned (.bool true) ∧ Mod (fun _ => False) w w' := by
  have hO := ope_new w 3 n a b
  have hm0 : Mod (fun _ => False) w (w.alloc (.cells #[.int .i64 3, .int .i64 n, .string a, .string b] 32)) := (Mod.refl _ w).alloc _
  by_cases hs : a.size ≤ 8006
  · go_enter Tryz.func22, Tryz.ntmps22
    go_wp2_with fail
    refine (verify_any a _ hs).mono ?_
    rintro e w1 ⟨rfl, hm1⟩
    have hO1 := hO.keep hm1 (fun f => f)
    have c2 := hO1.c2
    go_wp2_with fail
    refine (rverify_any a _ hs).mono ?_
    rintro e w2 ⟨rfl, hm2⟩
    have hm := hm0.trans (hm1.trans hm2)
    clear hm0 hm1 hm2 c2 hO1 hO
    go_wp2_with (go_at_call 25; refine (num_any _ _).mono ?_; rintro e w' ⟨rfl, rfl⟩)
    go_ret
    exact ⟨rfl, hm⟩
  · go_enter Tryz.func22, Tryz.ntmps22
    go_wp2_with fail
    refine (verify_long a _ (by omega) ha).mono ?_
    rintro e w1 ⟨rfl, hm1⟩
    have hO1 := hO.keep hm1 (fun f => f)
    have c2 := hO1.c2
    go_wp2_with fail
    refine (rverify_long a _ (by omega) ha).mono ?_
    rintro e w2 ⟨rfl, rfl⟩
    have hm := hm0.trans hm1
    go_wp2_with (go_at_call 25; refine (num_any _ _).mono ?_; rintro e w' ⟨rfl, rfl⟩)
    go_ret
    exact ⟨rfl, hm⟩
set_option maxHeartbeats 800000 in
set_option maxRecDepth 100000 in
theorem plays_verify : Plays 3 3 := by
  intro kd n a b w h1 h2 ha hb hn
  obtain rfl : kd = 3 := by omega
  have hm0 : Mod (fun _ => False) w (w.alloc (.cells #[.int .i64 3, .int .i64 n, .string a, .string b] 32)) := (Mod.refl _ w).alloc _
  clear h1 h2 hb hn
  go_enter Tryz.func18, Tryz.ntmps18
  go_wp2_with fail
  refine (texts_verify n a b _ ha).mono ?_
  rintro e w1 ⟨rfl, hm1⟩
  go_wp2_with fail
  go_ret
  exact ⟨rfl, hm0.trans hm1⟩
set_option maxHeartbeats 400000 in
theorem verifies_walk (v : Value) (w : World) (hS : Scr w v) : Calls Tryz.prog 5 #[v] w fun e w' => e = .returned (.bool true) ∧ Mod (fun _ => False) w w' := by
  have HS : Hid (Scr w v) := hS
  clear hS
  go_enter Tryz.func5, Tryz.ntmps5
  go_wp2_with fail
  refine (upto_any v 3 3 w HS.out plays_verify).mono ?_
  rintro e w1 ⟨rfl, hm1⟩
  go_wp2_with fail
  go_ret
  exact ⟨rfl, hm1⟩
end Go.Proofs.YtmnfndpbblpjiaaGreatDoor
