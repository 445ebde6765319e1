/- The program's Shrink, and a step that asks for it. -/
import Derived.Test.YtmnfndpbblpjiaaGreatDoorSh4
import Derived.Test.YtmnfndpbblpjiaaGreatDoorVe
import Derived.Test.YtmnfndpbblpjiaaGreatDoorRs2
namespace Go.Proofs.YtmnfndpbblpjiaaGreatDoor
open Go.RowKit Pu

set_option maxHeartbeats 400000 in
theorem shrink_long (s : ByteArray) (w : World) (hs : 8006 < s.size) (hm : s.size ≤ maxLen) : Calls Tryz.prog 26 #[.string s] w fun e w' => e = .returned (.tuple #[.string ⟨#[]⟩, .int .i64 1]) ∧ Mod (fun _ => False) w w' := by
  have hd := dec_long s w hs hm
  go_enter Tryz.func26, Tryz.ntmps26
  go_wp2_with fail
  refine hd.mono ?_
  rintro e w1 ⟨rfl, hm1⟩
  go_wp2_with fail
  go_ret2
  exact ⟨rfl, hm1.alloc _⟩
set_option maxHeartbeats 400000 in
theorem shrink_bad (s : ByteArray) (w : World) (hs : s.size ≤ 8006) (hv : (vfy s).1 = 8) : Calls Tryz.prog 26 #[.string s] w fun e w' => e = .returned (.tuple #[.string ⟨#[]⟩, .int .i64 8]) ∧ Mod (fun _ => False) w w' := by
  have HV : Hid ((vfy s).1 = 8) := hv
  clear hv
  go_enter Tryz.func26, Tryz.ntmps26
  go_wp2_with fail
  refine (dec_any s w hs).mono ?_
  rintro e w1 ⟨⟨a, b, ao, n, cap, he, -⟩, hm1⟩
  rw [HV.out] at he
  generalize (vfy s).2 = v2 at *
  subst he
  go_wp2_with fail
  go_ret2
  exact ⟨rfl, hm1.alloc _⟩
set_option maxHeartbeats 800000 in
theorem shrink_any (s : ByteArray) (w : World) (hs : s.size ≤ 8006) (hv : vfy s = (0, 0)) : Calls Tryz.prog 26 #[.string s] w fun e w' => e = .returned (.tuple #[.string (shr s), .int .i64 0]) ∧ Mod (fun _ => False) w w' := by
  have HV : Hid (vfy s = (0, 0)) := hv
  clear hv
  have HLen : Hid ((steps s).length = nst s) := stepsTo_len s _
  have HSS : Hid (∀ t ∈ steps s, Small t) := steps_small s
  go_enter Tryz.func26, Tryz.ntmps26
  go_wp2_with fail
  refine (dec_any s w hs).mono ?_
  rintro e w1 ⟨⟨a, b, ao, n, cap, he, hok⟩, hm1⟩
  rw [HV.out] at he hok
  subst he
  obtain ⟨rfl, rfl, hb, -, hL⟩ := hok rfl
  have HE : Hid (shr s = ⟨(joined (g s 2) (g s 3) (keepTo (steps s) (neededL (steps s)) (steps s).length)).toArray⟩) := show shr s = _ by rw [HLen.out]; exact shr_joined hb
  have hl : (steps s).length ≤ 3000 := by rw [HLen.out]; have := (nst_of hb).2.2.1; omega
  have HKM : Hid (∀ t ∈ keepTo (steps s) (neededL (steps s)) (steps s).length, Small t) := fun t ht => HSS.out t (keepTo_mem (Nat.le_refl _) t ht)
  have HKL : Hid ((keepTo (steps s) (neededL (steps s)) (steps s).length).length ≤ 3000) := show _ ≤ _ by
    rw [keepTo_len]; have := cntTo_le (neededL (steps s)) (steps s).length; omega
  have l2 := g_lt s 2
  have l3 := g_lt s 3
  generalize g s 2 = r2 at *
  generalize g s 3 = r3 at *
  clear hb
  have hpa : (w1.alloc (.cells #[.int .u8 r2, .int .u8 r3, .slice ao n cap] 52)).heap[w1.heap.size]? = some (.cells #[.int .u8 r2, .int .u8 r3, .slice ao n cap] 52 (0, 0)) := heap_alloc_new w1 _
  have hma := hm1.alloc (.cells #[.int .u8 r2, .int .u8 r3, .slice ao n cap] 52)
  have hLa := hL.mod ((Mod.refl (fun _ => False) w1).alloc (.cells #[.int .u8 r2, .int .u8 r3, .slice ao n cap] 52))
  have hs1 := hm1.size
  have HH : Hid _ := And.intro hpa (And.intro hma hLa)
  clear hpa hma hLa hL hm1
  go_wp2_with fail
  generalize w1.alloc (.cells #[.int .u8 r2, .int .u8 r3, .slice ao n cap] 52) = w2 at *
  obtain ⟨hpa, hma, hLa⟩ := HH.out
  clear HH
  refine (kept_any _ (steps s) _ w2 hl hLa HSS.out).mono ?_
  rintro e w3 ⟨hm3, u, rfl, hK⟩
  obtain ⟨uo, ucap, rfl, -⟩ := owns_form hK
  have hp3 := hm3.keep hpa (fun f => f)
  have hm3w := hma.trans hm3
  obtain ⟨c0, c1, c2⟩ := cells3 hp3
  have f2 := fz3 hp3 2
  have hp2l := lt_of_block hpa
  generalize keepTo (steps s) (neededL (steps s)) (steps s).length = q at *
  have hp4 := set3_2 (z' := .slice uo q.length ucap) hp3
  obtain ⟨d0, d1, d2⟩ := cells3 hp4
  have hm4 : Mod (fun _ => False) w (w3.setCell ⟨w1.heap.size, 2, none⟩ (.slice uo q.length ucap)) := hm3w.setCell ⟨w1.heap.size, 2, none⟩ (.slice uo q.length ucap) (fun h => absurd h (by show ¬ w1.heap.size < w.heap.size; omega))
  have hK4 : PLst (w3.setCell ⟨w1.heap.size, 2, none⟩ (.slice uo q.length ucap)) w2.heap.size (.slice uo q.length ucap) q :=
    owns_mod hK ((Mod.refl (fun k => k = w1.heap.size) w3).setCell ⟨w1.heap.size, 2, none⟩ (.slice uo q.length ucap) (fun _ => rfl)) (fun g h1 h2 => by omega)
  have HX : Hid _ := And.intro d0 (And.intro d1 (And.intro d2 (And.intro hm4 hK4)))
  clear d0 d1 d2 hm4 hK4 hK hp4 hp3 hpa hma hm3 hm3w hLa
  go_wp2_with fail
  obtain ⟨-, -, -, hm4, hK4⟩ := HX.out
  refine (join_any _ q r2 r3 _ _ HKL.out hK4 HKM.out l2 l3).mono ?_
  rintro e w5 ⟨rfl, hm5⟩
  have hmE := hm4.trans hm5
  clear HX hK4 hm4 hm5
  go_wp2_with fail
  go_ret2
  exact ⟨by rw [HE.out]; rfl, hmE⟩

theorem Pu.vfy_or (s : ByteArray) : (vfy s).1 = 8 ∨ (vfy s = (0, 0) ∧ begunB s = true) := by
  cases hb : begunB s with
  | false => exact .inl (by rw [vfy_bad hb])
  | true =>
    unfold vfy
    rw [hb]
    simp only [Bool.true_eq_false, if_false]
    split
    · exact .inl rfl
    · exact .inr ⟨rfl, trivial⟩

set_option maxHeartbeats 800000 in
set_option maxRecDepth 100000 in
theorem plays_shrink : Plays 5 5 := by
  intro kd n a b w h1 h2 ha hb hn
  obtain rfl : kd = 5 := by omega
  have hm0 : Mod (fun _ => False) w (w.alloc (.cells #[.int .i64 5, .int .i64 n, .string a, .string b] 32)) := (Mod.refl _ w).alloc _
  have hO := ope_new w 5 n a b
  clear h1 h2 hb hn
  by_cases hs : a.size ≤ 8006
  · rcases vfy_or a with hv | ⟨hv, hbg⟩
    · have HV : Hid ((vfy a).1 = 8) := hv
      clear hv
      go_enter Tryz.func18, Tryz.ntmps18
      go_wp2_with fail
      refine (shrink_bad a _ hs HV.out).mono ?_
      rintro e w1 ⟨rfl, hm1⟩
      have hO1 := hO.keep hm1 (fun f => f)
      have c2 := hO1.c2
      go_wp2_with fail
      refine (rshrink_bad a _ hs HV.out).mono ?_
      rintro e w2 ⟨rfl, hm2⟩
      have hm := hm0.trans (hm1.trans hm2)
      clear hm0 hm1 hm2 c2 hO1 hO
      go_wp2_with (go_at_call 25; refine (num_any _ _).mono ?_; rintro e w' ⟨rfl, rfl⟩)
      go_ret
      exact ⟨rfl, hm⟩
    · have HV : Hid (vfy a = (0, 0)) := hv
      have HB : Hid (begunB a = true) := hbg
      clear hv hbg
      go_enter Tryz.func18, Tryz.ntmps18
      go_wp2_with fail
      refine (shrink_any a _ hs HV.out).mono ?_
      rintro e w1 ⟨rfl, hm1⟩
      have hO1 := hO.keep hm1 (fun f => f)
      have c2 := hO1.c2
      go_wp2_with fail
      refine (rshrink_any a _ hs HB.out HV.out).mono ?_
      rintro e w2 ⟨rfl, hm2⟩
      have hm := hm0.trans (hm1.trans hm2)
      clear hm0 hm1 hm2 c2 hO1 hO
      go_wp2_with (go_at_call 25; refine (num_any _ _).mono ?_; rintro e w' ⟨rfl, rfl⟩)
      go_ret
      exact ⟨rfl, hm⟩
  · go_enter Tryz.func18, Tryz.ntmps18
    go_wp2_with fail
    refine (shrink_long a _ (by omega) ha).mono ?_
    rintro e w1 ⟨rfl, hm1⟩
    have hO1 := hO.keep hm1 (fun f => f)
    have c2 := hO1.c2
    go_wp2_with fail
    refine (rshrink_long a _ (by omega) ha).mono ?_
    rintro e w2 ⟨rfl, rfl⟩
    have hm := hm0.trans hm1
    clear hm0 hm1 c2 hO1 hO
    go_wp2_with (go_at_call 25; refine (num_any _ _).mono ?_; rintro e w' ⟨rfl, rfl⟩)
    go_ret
    exact ⟨rfl, hm⟩

set_option maxHeartbeats 400000 in
theorem shrinks_walk (v : Value) (w : World) (hS : Scr w v) : Calls Tryz.prog 7 #[v] w fun e w' => e = .returned (.bool true) ∧ Mod (fun _ => False) w w' := by
  have HS : Hid (Scr w v) := hS
  clear hS
  go_enter Tryz.func7, Tryz.ntmps7
  go_wp2_with fail
  refine (upto_any v 5 5 w HS.out plays_shrink).mono ?_
  rintro e w1 ⟨rfl, hm1⟩
  go_wp2_with fail
  go_ret
  exact ⟨rfl, hm1⟩
end Go.Proofs.YtmnfndpbblpjiaaGreatDoor
