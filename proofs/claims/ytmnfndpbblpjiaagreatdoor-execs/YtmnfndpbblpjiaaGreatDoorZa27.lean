/- The program's Shrink, and a step that asks for it. -/
import Derived.Test.YtmnfndpbblpjiaaGreatDoorZa26
import Derived.Test.YtmnfndpbblpjiaaGreatDoorZa23
import Derived.Test.YtmnfndpbblpjiaaGreatDoorZa20
import Derived.Test.YtmnfndpbblpjiaaGreatDoorZa25
import Derived.Test.YtmnfndpbblpjiaaGreatDoorZa22
namespace Go.Proofs.YtmnfndpbblpjiaaGreatDoor
open Go.RowKit Pu
set_option maxHeartbeats 400000 in
theorem shrink_long (s : ByteArray) (w : World) (hs : 8006 < s.size) (hm : s.size ≤ maxLen) : Calls Tryz.prog 26 #[.string s] w fun e w' => e = .returned (.tuple #[.string ⟨#[]⟩, .int .i64 1]) ∧ Mod (fun _ => False) w w' := by
  have hd := dec_long s w hs hm
  go_enter Tryz.func26, Tryz.ntmps26
  go_wp2_with fail
  refine hd.mono ?_
  rintro e w1 ⟨rfl, hm1⟩
  go_wp2_with fail
  go_ret2
  exact ⟨rfl, hm1.alloc _⟩
set_option maxHeartbeats 400000 in
theorem shrink_bad (s : ByteArray) (w : World) (hs : s.size ≤ 8006) (hv : (vfy s).1 = 8) : Calls Tryz.prog 26 #[.string s] w fun e w' => e = .returned (.tuple #[.string ⟨#[]⟩, .int .i64 8]) ∧ Mod (fun _ => False) w w' := by
  have HV : Hid ((vfy s).1 = 8) := hv
  clear hv
  go_enter Tryz.func26, Tryz.ntmps26
  go_wp2_with fail
  refine (dec_any s w hs).mono ?_
  rintro e w1 ⟨⟨a, b, ao, n, cap, he, -⟩, hm1⟩
  rw [HV.out] at he
  generalize (vfy s).2 = v2 at *
  subst he
  go_wp2_with fail
  go_ret2
  exact ⟨rfl, hm1.alloc _⟩
set_option maxHeartbeats 800000 in
theorem shrink_any (s : ByteArray) (w : World) (hs : s.size ≤ 8006) (hv : vfy s = (0, 0)) : Calls Tryz.prog 26 #[.string s] w fun e w' => e = .returned (.tuple #[.string (shr s), .int .i64 0]) ∧ Mod (fun _ => False) w w' := by
  have HV : Hid (vfy s = (0, 0)) := hv
  clear hv
  have HLen : Hid ((steps s).length = nst s) := stepsTo_len s _
  have HSS : Hid (∀ t ∈ steps s, Small t) := steps_small s
  go_enter Tryz.func26, Tryz.ntmps26
  go_wp2_with fail
  refine (dec_any s w hs).mono ?_
  rintro e w1 ⟨⟨a, b, ao, n, cap, he, hok⟩, hm1⟩
  rw [HV.out] at he hok
  subst he
  obtain ⟨rfl, rfl, hb, -, hL⟩ := hok rfl
  have HE : Hid (shr s = ⟨(joined (g s 2) (g s 3) (keepTo (steps s) (neededL (steps s)) (steps s).length)).toArray⟩) := show shr s = _ by rw [HLen.out]; exact shr_joined hb
  have hl : (steps s).length ≤ 3000 := by rw [HLen.out]; have := (nst_of hb).2.2.1; omega
  have HKM : Hid (∀ t ∈ keepTo (steps s) (neededL (steps s)) (steps s).length, Small t) := fun t ht => HSS.out t (keepTo_mem (Nat.le_refl _) t ht)
  have HKL : Hid ((keepTo (steps s) (neededL (steps s)) (steps s).length).length ≤ 3000) := show _ ≤ _ by
    rw [keepTo_len]; have := cntTo_le (neededL (steps s)) (steps s).length; omega
  have l2 := g_lt s 2
  have l3 := g_lt s 3
  generalize g s 2 = r2 at *
  generalize g s 3 = r3 at *
  clear hb
  have hpa : (w1.alloc (.cells #[.int .u8 r2, .int .u8 r3, .slice ao n cap] 52)).heap[w1.heap.size]? = some (.cells #[.int .u8 r2, .int .u8 r3, .slice ao n cap] 52 (0, 0)) := heap_alloc_new w1 _
  have hma := hm1.alloc (.cells #[.int .u8 r2, .int .u8 r3, .slice ao n cap] 52)
  have hLa := hL.mod ((Mod.refl (fun _ => False) w1).alloc (.cells #[.int .u8 r2, .int .u8 r3, .slice ao n cap] 52))
  have hs1 := hm1.size
  have HH : Hid _ := And.intro hpa (And.intro hma hLa)
  clear hpa hma hLa hL hm1
  go_wp2_with fail
  generalize w1.alloc (.cells #[.int .u8 r2, .int .u8 r3, .slice ao n cap] 52) = w2 at *
  obtain ⟨hpa, hma, hLa⟩ := HH.out
  clear HH
  refine (kept_any _ (steps s) _ w2 hl hLa HSS.out).mono ?_
  rintro e w3 ⟨hm3, u, rfl, hK⟩
  obtain ⟨uo, ucap, rfl, -⟩ := owns_form hK
  have hp3 := hm3.keep hpa (fun f => f)
  have hm3w := hma.trans hm3
  obtain ⟨c0, c1, c2⟩ := cells3 hp3
  have f2 := fz3 hp3 2
  have hp2l := lt_of_block hpa
  generalize keepTo (steps s) (neededL (steps s)) (steps s).length = q at *
  have hp4 := set3_2 (z' := .slice uo q.length ucap) hp3
  obtain ⟨d0, d1, d2⟩ := cells3 hp4
  have hm4 : Mod (fun _ => False) w (w3.setCell ⟨w1.heap.size, 2, none⟩ (.slice uo q.length ucap)) := hm3w.setCell ⟨w1.heap.size, 2, none⟩ (.slice uo q.length ucap) (fun h => absurd h (by show ¬ w1.heap.size < w.heap.size; omega))
  have hK4 : PLst (w3.setCell ⟨w1.heap.size, 2, none⟩ (.slice uo q.length ucap)) w2.heap.size (.slice uo q.length ucap) q :=
    owns_mod hK ((Mod.refl (fun k => k = w1.heap.size) w3).setCell ⟨w1.heap.size, 2, none⟩ (.slice uo q.length ucap) (fun _ => rfl)) (fun g h1 h2 => by omega)
  have HX : Hid _ := And.intro d0 (And.intro d1 (And.intro d2 (And.intro hm4 hK4)))
  clear d0 d1 d2 hm4 hK4 hK hp4 hp3 hpa hma hm3 hm3w hLa
  go_wp2_with fail
  obtain ⟨-, -, -, hm4, hK4⟩ := HX.out
  refine (join_any _ q r2 r3 _ _ HKL.out hK4 HKM.out l2 l3).mono ?_
  rintro e w5 ⟨rfl, hm5⟩
  have hmE := hm4.trans hm5
  clear HX hK4 hm4 hm5
  go_wp2_with fail
  go_ret2
  exact ⟨by rw [HE.out]; rfl, hmE⟩
theorem Pu.vfy_or (s : ByteArray) : (vfy s).1 = 8 ∨ (vfy s = (0, 0) ∧ begunB s = true) := by
  cases hb : begunB s with
  | false => exact .inl (by rw [vfy_bad hb])
  | true =>
    unfold vfy
    rw [hb]
    simp only [Bool.true_eq_false, if_false]
    split
    · exact .inl rfl
    · exact .inr ⟨rfl, trivial⟩
end Go.Proofs.YtmnfndpbblpjiaaGreatDoor

/- The document's Shrink. -/
namespace Go.Proofs.YtmnfndpbblpjiaaGreatDoor
open Go.RowKit Pu
attribute [local go_sem] wrap_b
theorem two_bytes (w : World) (n : Nat) (hn : n ≤ 2000) :
    (convert 75 9 (.slice (some ⟨w.heap.size, 0, none⟩) 2 2)).run Tryz.prog (w.alloc (.cells #[.int .u8 ((n : Int) % 256), .int .u8 ((n : Int) / 256)] 5)).drew
      = .ok (.string ⟨#[UInt8.ofNat (n % 256), UInt8.ofNat (n / 256)]⟩) (w.alloc (.cells #[.int .u8 ((n : Int) % 256), .int .u8 ((n : Int) / 256)] 5)).drew := by
  refine run_convert_bytes_back (P := Tryz.prog) _ 75 9 5 ⟨w.heap.size, 0, none⟩ 2 [UInt8.ofNat (n % 256), UInt8.ofNat (n / 256)] Tryz.underlying75 Tryz.underlying5 Tryz.underlying9 ?_
  intro j hj
  have hj2 : j < 2 := by simpa using hj
  have hc : (w.alloc (.cells #[.int .u8 ((n : Int) % 256), .int .u8 ((n : Int) / 256)] 5)).drew.cell? ⟨w.heap.size, j, none⟩ = #[Value.int .u8 ((n : Int) % 256), .int .u8 ((n : Int) / 256)][j]? := World.cell?_alloc_mark w _ _ _ j
  match j, hj2 with
  | 0, _ =>
    have ha : (⟨w.heap.size, 0, none⟩ : Addr).add 0 = ⟨w.heap.size, 0, none⟩ := by simp [Addr.add]
    rw [ha, hc]
    simp
  | 1, _ =>
    have ha : (⟨w.heap.size, 0, none⟩ : Addr).add 1 = ⟨w.heap.size, 1, none⟩ := by simp [Addr.add]
    rw [ha, hc]
    simp
    omega
set_option maxHeartbeats 400000 in
theorem rshrink_long (s : ByteArray) (w : World) (hs : 8006 < s.size) (hm : s.size ≤ maxLen) : Calls Tryz.prog 27 #[.string s] w fun e w' => e = .returned (.tuple #[.string ⟨#[]⟩, .int .i64 1]) ∧ w = w' := by
  go_enter Tryz.func27, Tryz.ntmps27
  go_wp2_with fail
  refine (rverify_long s w hs hm).mono ?_
  rintro e w1 ⟨rfl, rfl⟩
  go_wp2_with fail
  go_ret2
  exact ⟨rfl, rfl⟩
set_option maxHeartbeats 800000 in
set_option maxRecDepth 100000 in
theorem rshrink_bad (s : ByteArray) (w : World) (hs : s.size ≤ 8006) (hv : (vfy s).1 = 8) : Calls Tryz.prog 27 #[.string s] w fun e w' => e = .returned (.tuple #[.string ⟨#[]⟩, .int .i64 8]) ∧ Mod (fun _ => False) w w' := by
  have HV : Hid ((vfy s).1 = 8) := hv
  clear hv
  go_enter Tryz.func27, Tryz.ntmps27
  go_wp2_with fail
  refine (rverify_any s w hs).mono ?_
  rintro e w1 ⟨he, hm1⟩
  rw [HV.out] at he
  generalize (vfy s).2 = v2 at *
  subst he
  go_wp2_with fail
  go_ret2
  exact ⟨rfl, hm1⟩
set_option maxHeartbeats 800000 in
set_option maxRecDepth 100000 in
theorem rshrink_any (s : ByteArray) (w : World) (hs : s.size ≤ 8006) (hb : begunB s = true) (hv : vfy s = (0, 0)) : Calls Tryz.prog 27 #[.string s] w fun e w' => e = .returned (.tuple #[.string (shr s), .int .i64 0]) ∧ Mod (fun _ => False) w w' := by
  obtain ⟨h6, -, hn, HS, -, -, -⟩ := nst_of hb
  have HSZ : Hid (s.size = 6 + 4 * nst s) := HS
  clear HS hb
  have HV : Hid (vfy s = (0, 0)) := hv
  clear hv
  have HLen : Hid ((steps s).length = nst s) := stepsTo_len s _
  have HE : Hid (shr s = s.extract 0 4 ++ ⟨#[UInt8.ofNat (cntTo (neededL (steps s)) (nst s) % 256), UInt8.ofNat (cntTo (neededL (steps s)) (nst s) / 256)]⟩ ++ bodyTo s (neededL (steps s)) (nst s)) := rfl
  generalize shr s = ans at *
  go_enter Tryz.func27, Tryz.ntmps27
  go_wp2_with fail
  refine (rverify_any s w hs).mono ?_
  rintro e w1 ⟨he, hm1⟩
  rw [HV.out] at he
  subst he
  go_wp2_with fail
  refine (steps_any s w1 hs).mono ?_
  rintro e w2 ⟨hm2, v, rfl, hL⟩
  go_wp2_with fail
  refine (needed_any v (steps s) _ w2 (by rw [HLen.out]; omega) hL (steps_small s)).mono ?_
  rintro e w3 ⟨hm3, u, rfl, hN⟩
  have hm := hm1.trans (hm2.trans hm3)
  clear hm1 hm2 hm3 hL
  have HNL : Hid ((neededL (steps s)).length = nst s) := show _ = _ by rw [neededL_len, HLen.out]
  rw [HLen.out] at hN
  generalize neededL (steps s) = nd at *
  obtain ⟨ao, cap, rfl, -⟩ := owns_form hN
  go_wp2_with fail
  go_loop [7, 8, 9] (fun bv nv kv => ∃ (k : Nat) (bd : ByteArray) (n : Nat), k ≤ nst s ∧ kv = .int .i64 k ∧ bv = .string bd ∧ nv = .int .i64 n ∧ n ≤ k ∧ bd.size ≤ 4 * k ∧ Hid (bd = bodyTo s nd k) ∧ Hid (n = cntTo nd k)) (fun _ _ kv => nst s - (intOf kv).toNat)
  case atStart => exact ⟨0, ⟨#[]⟩, 0, by omega, rfl, rfl, rfl, by omega, by simp [ByteArray.size], rfl, rfl⟩
  case round =>
    obtain ⟨k, bd, n, hk, rfl, rfl, rfl, hnk, hbk, HB, HC⟩ := hrel
    by_cases hlt : k < nst s
    · have hkn : k < nd.length := by rw [HNL.out]; exact hlt
      obtain ⟨gb, rfl, ck⟩ := tvs_cell hN HNL.out.symm hkn
      cases hdk : nd[k] with
      | true =>
        rw [hdk] at ck
        have HB2 : Hid (bd ++ s.extract (6 + 4 * k) (10 + 4 * k) = bodyTo s nd (k + 1)) := show _ = _ by rw [bodyTo_yes hkn hdk, HB.out]
        have HC2 : Hid (n + 1 = cntTo nd (k + 1)) := show _ = _ by rw [cntTo_yes hkn hdk, HC.out]
        have hsz : (bd ++ s.extract (6 + 4 * k) (10 + 4 * k)).size ≤ 4 * (k + 1) := by rw [ByteArray.size_append, ByteArray.size_extract]; omega
        have hse : 10 + 4 * k ≤ s.size := by have := HSZ.out; omega
        clear HB HC
        go_wp2_with fail
        go_round
        case rel => exact ⟨k + 1, _, n + 1, by omega, by go_num, rfl, by go_num, by omega, hsz, HB2, HC2⟩
        case measure => simp [intOf]; omega
      | false =>
        rw [hdk] at ck
        have HB2 : Hid (bd = bodyTo s nd (k + 1)) := show _ = _ by rw [bodyTo_no hkn hdk, HB.out]
        have HC2 : Hid (n = cntTo nd (k + 1)) := show _ = _ by rw [cntTo_no hkn hdk, HC.out]
        clear HB HC
        go_wp2_with fail
        go_round
        case rel => exact ⟨k + 1, bd, n, by omega, by go_num, rfl, rfl, by omega, by omega, HB2, HC2⟩
        case measure => simp [intOf]; omega
    · have hk' : k = nst s := by omega
      have HE2 : Hid (ans = s.extract 0 4 ++ ⟨#[UInt8.ofNat (n % 256), UInt8.ofNat (n / 256)]⟩ ++ bd) := show _ = _ by rw [HE.out, HB.out, HC.out, hk']
      have hse : 4 ≤ s.size := by omega
      clear hk' HE HB HC
      have hcv := two_bytes w3 n (by omega)
      have hse2 : (4 : Int) ≤ (s.size : Int) := by omega
      have hmE : Mod (fun _ => False) w (w3.alloc (.cells #[.int .u8 ((n : Int) % 256), .int .u8 ((n : Int) / 256)] 5)).drew := (hm.alloc _).drew
      go_wp2_with fail
      go_region
      go_wp2_with fail
      go_ret2
      exact ⟨by rw [HE2.out]; rfl, hmE⟩
end Go.Proofs.YtmnfndpbblpjiaaGreatDoor

/- The program's Shrink, and a step that asks for it. -/
namespace Go.Proofs.YtmnfndpbblpjiaaGreatDoor
open Go.RowKit Pu
set_option maxHeartbeats 800000 in
set_option maxRecDepth 100000 in
theorem plays_shrink : Plays 5 5 := by
  intro kd n a b w h1 h2 ha hb hn
  obtain rfl : kd = 5 := by omega
  have hm0 : Mod (fun _ => False) w (w.alloc (.cells #[.int .i64 5, .int .i64 n, .string a, .string b] 32)) := (Mod.refl _ w).alloc _
  have hO := ope_new w 5 n a b
  clear h1 h2 hb hn
  by_cases hs : a.size ≤ 8006
  · rcases vfy_or a with hv | ⟨hv, hbg⟩
    · have HV : Hid ((vfy a).1 = 8) := hv
      clear hv
      go_enter Tryz.func18, Tryz.ntmps18
      go_wp2_with fail
      refine (shrink_bad a _ hs HV.out).mono ?_
      rintro e w1 ⟨rfl, hm1⟩
      have hO1 := hO.keep hm1 (fun f => f)
      have c2 := hO1.c2
      go_wp2_with fail
      refine (rshrink_bad a _ hs HV.out).mono ?_
      rintro e w2 ⟨rfl, hm2⟩
      have hm := hm0.trans (hm1.trans hm2)
      clear hm0 hm1 hm2 c2 hO1 hO
      go_wp2_with (go_at_call 25; refine (num_any _ _).mono ?_; rintro e w' ⟨rfl, rfl⟩)
      go_ret
      exact ⟨rfl, hm⟩
    · have HV : Hid (vfy a = (0, 0)) := hv
      have HB : Hid (begunB a = true) := hbg
      clear hv hbg
      go_enter Tryz.func18, Tryz.ntmps18
      go_wp2_with fail
      refine (shrink_any a _ hs HV.out).mono ?_
      rintro e w1 ⟨rfl, hm1⟩
      have hO1 := hO.keep hm1 (fun f => f)
      have c2 := hO1.c2
      go_wp2_with fail
      refine (rshrink_any a _ hs HB.out HV.out).mono ?_
      rintro e w2 ⟨rfl, hm2⟩
      have hm := hm0.trans (hm1.trans hm2)
      clear hm0 hm1 hm2 c2 hO1 hO
      go_wp2_with (go_at_call 25; refine (num_any _ _).mono ?_; rintro e w' ⟨rfl, rfl⟩)
      go_ret
      exact ⟨rfl, hm⟩
  · go_enter Tryz.func18, Tryz.ntmps18
    go_wp2_with fail
    refine (shrink_long a _ (by omega) ha).mono ?_
    rintro e w1 ⟨rfl, hm1⟩
    have hO1 := hO.keep hm1 (fun f => f)
    have c2 := hO1.c2
    go_wp2_with fail
    refine (rshrink_long a _ (by omega) ha).mono ?_
    rintro e w2 ⟨rfl, rfl⟩
    have hm := hm0.trans hm1
    clear hm0 hm1 c2 hO1 hO
    go_wp2_with (go_at_call 25; refine (num_any _ _).mono ?_; rintro e w' ⟨rfl, rfl⟩)
    go_ret
    exact ⟨rfl, hm⟩
set_option maxHeartbeats 400000 in
theorem shrinks_walk (v : Value) (w : World) (hS : Scr w v) : Calls Tryz.prog 7 #[v] w fun e w' => e = .returned (.bool true) ∧ Mod (fun _ => False) w w' := by
  have HS : Hid (Scr w v) := hS
  clear hS
  go_enter Tryz.func7, Tryz.ntmps7
  go_wp2_with fail
  refine (upto_any v 5 5 w HS.out plays_shrink).mono ?_
  rintro e w1 ⟨rfl, hm1⟩
  go_wp2_with fail
  go_ret
  exact ⟨rfl, hm1⟩
end Go.Proofs.YtmnfndpbblpjiaaGreatDoor
