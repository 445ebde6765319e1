/- The program's Exec, and a step that asks for it. -/
import Derived.Test.YtmnfndpbblpjiaaGreatDoorZa33
import Derived.Test.YtmnfndpbblpjiaaGreatDoorZa27
import Derived.Test.YtmnfndpbblpjiaaGreatDoorZa20
import Derived.Test.YtmnfndpbblpjiaaGreatDoorZa34
namespace Go.Proofs.YtmnfndpbblpjiaaGreatDoor
open Go.RowKit Pu
set_option maxHeartbeats 400000 in
theorem exec_long (s inp : ByteArray) (w : World) (hs : 8006 < s.size ∨ 140 < inp.size) (hm : s.size ≤ maxLen) (hm2 : inp.size ≤ maxLen) : Calls Tryz.prog 23 #[.string s, .string inp] w fun e w' => e = .returned (.tuple #[.string ⟨#[]⟩, .int .i64 1]) ∧ w = w' := by
  unfold maxLen at hm hm2
  by_cases h1 : 8006 < s.size
  · have i1 : (8006 : Int) < (s.size : Int) := by omega
    clear hs
    go_enter Tryz.func23, Tryz.ntmps23
    go_wp2_with fail
    go_ret2
    exact ⟨rfl, rfl⟩
  · have i1 : ¬ (8006 : Int) < (s.size : Int) := by omega
    have i2 : (140 : Int) < (inp.size : Int) := by omega
    clear hs
    go_enter Tryz.func23, Tryz.ntmps23
    go_wp2_with fail
    go_ret2
    exact ⟨rfl, rfl⟩
set_option maxHeartbeats 800000 in
set_option maxRecDepth 4000 in
theorem exec_any (B nn : Nat) (hB : B = 10 ^ nn) (hnn : nn = 8000) (s inp : ByteArray) (w : World) (hs : s.size ≤ 8006) (hi : inp.size ≤ 140) : Calls Tryz.prog 23 #[.string s, .string inp] w fun e w' => e = .returned (.tuple #[.string (exe B s inp).1, .int .i64 (exe B s inp).2]) ∧ Mod (fun _ => False) w w' := by
  have i1 : ¬ (8006 : Int) < (s.size : Int) := by omega
  have i2 : ¬ (140 : Int) < (inp.size : Int) := by omega
  have HB : Hid (B = 10 ^ nn) := hB
  have HNN : Hid (nn = 8000) := hnn
  clear hB hnn
  rcases vfy_or s with hv | ⟨hv, hbg⟩
  · have HE : Hid (exe B s inp = (⟨#[]⟩, 8)) := exe_bad hv
    have HV : Hid ((vfy s).1 = 8) := hv
    clear hv
    generalize exe B s inp = ex at *
    go_enter Tryz.func23, Tryz.ntmps23
    go_wp2_with fail
    refine (dec_any s w hs).mono ?_
    rintro e w1 ⟨⟨a, b, ao, n, cap, he, -⟩, hm1⟩
    rw [HV.out] at he
    generalize (vfy s).2 = v2 at *
    subst he
    have hm := hm1.alloc (.cells #[.int .u8 a, .int .u8 b, .slice ao n cap] 52)
    go_wp2_with fail
    go_ret2
    exact ⟨by rw [HE.out]; rfl, hm⟩
  · have HV : Hid (vfy s = (0, 0)) := hv
    have hn2 : nst s ≤ 2000 := (nst_of hbg).2.2.1
    have hr2 : g s 2 ≤ 128 := (nst_of hbg).2.2.2.2.2.1
    have HLen : Hid ((steps s).length = nst s) := stepsTo_len s _
    have HG : Hid (∀ t ∈ steps s, Good (g s 3) t) := fun t ht => by
      obtain ⟨j, hj, rfl⟩ := List.getElem_of_mem ht
      rw [steps_at]
      exact right_good (stepAt_small s j) hr2 ((vfy_right HV.out).2 j (by rw [steps, stepsTo_len] at hj; exact hj))
    have l3 := g_lt s 3
    have w3 : IntKind.i64.wrap (g s 3 : Int) = (g s 3 : Int) := by simp [IntKind.wrap, IntKind.signed, IntKind.bits]; omega
    clear hv hbg hr2
    go_enter Tryz.func23, Tryz.ntmps23
    go_wp2_with fail
    refine (dec_any s w hs).mono ?_
    rintro e w1 ⟨⟨a, b, ao, n, cap, he, hok⟩, hm1⟩
    rw [HV.out] at he hok
    subst he
    obtain ⟨rfl, rfl, -, -, hL⟩ := hok rfl
    clear hok
    have hpa := heap_alloc_new w1 (.cells #[.int .u8 (g s 2), .int .u8 (g s 3), .slice ao n cap] 52)
    have hma := hm1.alloc (.cells #[.int .u8 (g s 2), .int .u8 (g s 3), .slice ao n cap] 52)
    have hLa := hL.mod ((Mod.refl (fun _ => False) w1).alloc (.cells #[.int .u8 (g s 2), .int .u8 (g s 3), .slice ao n cap] 52))
    obtain ⟨c0, c1, c2⟩ := cells3 hpa
    have HH : Hid _ := And.intro hpa (And.intro hma hLa)
    clear hpa hma hLa hL hm1
    go_wp2_with fail
    generalize w1.alloc (.cells #[.int .u8 (g s 2), .int .u8 (g s 3), .slice ao n cap] 52) = w2 at *
    obtain ⟨hpa, hma, hLa⟩ := HH.out
    clear HH
    refine (start_any B nn HB.out HNN.out (g s 2) (g s 3) (.slice ao n cap) (steps s) _ inp w2 (by rw [HLen.out]; omega) hLa hi l3 HG.out).mono ?_
    rintro e w3 ⟨rfl, hm3⟩
    have HE : Hid (exe B s inp = stt B (g s 3) (steps s) inp) := exe_stt HV.out
    have hmE := hma.trans hm3
    generalize stt B (g s 3) (steps s) inp = st at *
    clear hpa hma hLa hm3
    go_wp2_with fail
    go_ret2
    exact ⟨by rw [HE.out]; rfl, hmE⟩
end Go.Proofs.YtmnfndpbblpjiaaGreatDoor

/- The program's Exec, and a step that asks for it. -/
namespace Go.Proofs.YtmnfndpbblpjiaaGreatDoor
open Go.RowKit Pu
set_option maxHeartbeats 800000 in
set_option maxRecDepth 100000 in
theorem plays_exec : Plays 4 4 := by
  intro kd n a b w h1 h2 ha hb hn
  obtain rfl : kd = 4 := by omega
  have hm0 : Mod (fun _ => False) w (w.alloc (.cells #[.int .i64 4, .int .i64 n, .string a, .string b] 32)) := (Mod.refl _ w).alloc _
  have hO := ope_new w 4 n a b
  clear h1 h2 hn
  obtain ⟨nn, hnn⟩ : ∃ nn : Nat, nn = 8000 := ⟨8000, rfl⟩
  obtain ⟨B, hB⟩ : ∃ B : Nat, B = 10 ^ nn := ⟨_, rfl⟩
  by_cases hs : a.size ≤ 8006 ∧ b.size ≤ 140
  · have hex := fun w => exec_any B nn hB hnn a b w hs.1 hs.2
    have hrx := fun w => rexec_any B nn hB hnn a b w hs.1 hs.2
    generalize exe B a b = ex at *
    clear hB hnn hs
    go_enter Tryz.func18, Tryz.ntmps18
    go_wp2_with fail
    refine (hex _).mono ?_
    rintro e w1 ⟨rfl, hm1⟩
    have hO1 := hO.keep hm1 (fun f => f)
    have c2 := hO1.c2
    have c3 := hO1.c3
    go_wp2_with fail
    refine (hrx _).mono ?_
    rintro e w2 ⟨rfl, hm2⟩
    have hm := hm0.trans (hm1.trans hm2)
    clear hm0 hm1 hm2 c2 c3 hO1 hO hex hrx
    go_wp2_with (go_at_call 25; refine (num_any _ _).mono ?_; rintro e w' ⟨rfl, rfl⟩)
    go_ret
    exact ⟨rfl, hm⟩
  · clear hB hnn
    have hs' : 8006 < a.size ∨ 140 < b.size := by omega
    clear hs
    have hex := fun w => exec_long a b w hs' ha hb
    have hrx := fun w => rexec_long a b w hs' ha hb
    clear hs'
    go_enter Tryz.func18, Tryz.ntmps18
    go_wp2_with fail
    refine (hex _).mono ?_
    rintro e w1 ⟨rfl, rfl⟩
    have c2 := hO.c2
    have c3 := hO.c3
    go_wp2_with fail
    refine (hrx _).mono ?_
    rintro e w2 ⟨rfl, rfl⟩
    clear c2 c3 hO hex hrx
    go_wp2_with (go_at_call 25; refine (num_any _ _).mono ?_; rintro e w' ⟨rfl, rfl⟩)
    go_ret
    exact ⟨rfl, hm0⟩
set_option maxHeartbeats 400000 in
theorem execs_walk (v : Value) (w : World) (hS : Scr w v) : Calls Tryz.prog 6 #[v] w fun e w' => e = .returned (.bool true) ∧ Mod (fun _ => False) w w' := by
  have HS : Hid (Scr w v) := hS
  clear hS
  go_enter Tryz.func6, Tryz.ntmps6
  go_wp2_with fail
  refine (upto_any v 4 4 w HS.out plays_exec).mono ?_
  rintro e w1 ⟨rfl, hm1⟩
  go_wp2_with fail
  go_ret
  exact ⟨rfl, hm1⟩
end Go.Proofs.YtmnfndpbblpjiaaGreatDoor
