/- The document's Shrink. -/
import Derived.Test.YtmnfndpbblpjiaaGreatDoorRs1
import Derived.Test.YtmnfndpbblpjiaaGreatDoorRv5
namespace Go.Proofs.YtmnfndpbblpjiaaGreatDoor
open Go.RowKit Pu
attribute [local go_sem] wrap_b

theorem two_bytes (w : World) (n : Nat) (hn : n ≤ 2000) :
    (convert 75 9 (.slice (some ⟨w.heap.size, 0, none⟩) 2 2)).run Tryz.prog (w.alloc (.cells #[.int .u8 ((n : Int) % 256), .int .u8 ((n : Int) / 256)] 5)).drew
      = .ok (.string ⟨#[UInt8.ofNat (n % 256), UInt8.ofNat (n / 256)]⟩) (w.alloc (.cells #[.int .u8 ((n : Int) % 256), .int .u8 ((n : Int) / 256)] 5)).drew := by
  refine run_convert_bytes_back (P := Tryz.prog) _ 75 9 5 ⟨w.heap.size, 0, none⟩ 2 [UInt8.ofNat (n % 256), UInt8.ofNat (n / 256)] Tryz.underlying75 Tryz.underlying5 Tryz.underlying9 ?_
  intro j hj
  have hj2 : j < 2 := by simpa using hj
  have hc : (w.alloc (.cells #[.int .u8 ((n : Int) % 256), .int .u8 ((n : Int) / 256)] 5)).drew.cell? ⟨w.heap.size, j, none⟩ = #[Value.int .u8 ((n : Int) % 256), .int .u8 ((n : Int) / 256)][j]? := World.cell?_alloc_mark w _ _ _ j
  match j, hj2 with
  | 0, _ =>
    have ha : (⟨w.heap.size, 0, none⟩ : Addr).add 0 = ⟨w.heap.size, 0, none⟩ := by simp [Addr.add]
    rw [ha, hc]
    simp
  | 1, _ =>
    have ha : (⟨w.heap.size, 0, none⟩ : Addr).add 1 = ⟨w.heap.size, 1, none⟩ := by simp [Addr.add]
    rw [ha, hc]
    simp
    omega

set_option maxHeartbeats 400000 in
theorem rshrink_long (s : ByteArray) (w : World) (hs : 8006 < s.size) (hm : s.size ≤ maxLen) : Calls Tryz.prog 27 #[.string s] w fun e w' => e = .returned (.tuple #[.string ⟨#[]⟩, .int .i64 1]) ∧ w = w' := by
  go_enter Tryz.func27, Tryz.ntmps27
  go_wp2_with fail
  refine (rverify_long s w hs hm).mono ?_
  rintro e w1 ⟨rfl, rfl⟩
  go_wp2_with fail
  go_ret2
  exact ⟨rfl, rfl⟩

set_option maxHeartbeats 800000 in
set_option maxRecDepth 100000 in
theorem rshrink_bad (s : ByteArray) (w : World) (hs : s.size ≤ 8006) (hv : (vfy s).1 = 8) : Calls Tryz.prog 27 #[.string s] w fun e w' => e = .returned (.tuple #[.string ⟨#[]⟩, .int .i64 8]) ∧ Mod (fun _ => False) w w' := by
  have HV : Hid ((vfy s).1 = 8) := hv
  clear hv
  go_enter Tryz.func27, Tryz.ntmps27
  go_wp2_with fail
  refine (rverify_any s w hs).mono ?_
  rintro e w1 ⟨he, hm1⟩
  rw [HV.out] at he
  generalize (vfy s).2 = v2 at *
  subst he
  go_wp2_with fail
  go_ret2
  exact ⟨rfl, hm1⟩

set_option maxHeartbeats 800000 in
set_option maxRecDepth 100000 in
theorem rshrink_any (s : ByteArray) (w : World) (hs : s.size ≤ 8006) (hb : begunB s = true) (hv : vfy s = (0, 0)) : Calls Tryz.prog 27 #[.string s] w fun e w' => e = .returned (.tuple #[.string (shr s), .int .i64 0]) ∧ Mod (fun _ => False) w w' := by
  obtain ⟨h6, -, hn, HS, -, -, -⟩ := nst_of hb
  have HSZ : Hid (s.size = 6 + 4 * nst s) := HS
  clear HS hb
  have HV : Hid (vfy s = (0, 0)) := hv
  clear hv
  have HLen : Hid ((steps s).length = nst s) := stepsTo_len s _
  have HE : Hid (shr s = s.extract 0 4 ++ ⟨#[UInt8.ofNat (cntTo (neededL (steps s)) (nst s) % 256), UInt8.ofNat (cntTo (neededL (steps s)) (nst s) / 256)]⟩ ++ bodyTo s (neededL (steps s)) (nst s)) := rfl
  generalize shr s = ans at *
  go_enter Tryz.func27, Tryz.ntmps27
  go_wp2_with fail
  refine (rverify_any s w hs).mono ?_
  rintro e w1 ⟨he, hm1⟩
  rw [HV.out] at he
  subst he
  go_wp2_with fail
  refine (steps_any s w1 hs).mono ?_
  rintro e w2 ⟨hm2, v, rfl, hL⟩
  go_wp2_with fail
  refine (needed_any v (steps s) _ w2 (by rw [HLen.out]; omega) hL (steps_small s)).mono ?_
  rintro e w3 ⟨hm3, u, rfl, hN⟩
  have hm := hm1.trans (hm2.trans hm3)
  clear hm1 hm2 hm3 hL
  have HNL : Hid ((neededL (steps s)).length = nst s) := show _ = _ by rw [neededL_len, HLen.out]
  rw [HLen.out] at hN
  generalize neededL (steps s) = nd at *
  obtain ⟨ao, cap, rfl, -⟩ := owns_form hN
  go_wp2_with fail
  go_loop [7, 8, 9] (fun bv nv kv => ∃ (k : Nat) (bd : ByteArray) (n : Nat), k ≤ nst s ∧ kv = .int .i64 k ∧ bv = .string bd ∧ nv = .int .i64 n ∧ n ≤ k ∧ bd.size ≤ 4 * k ∧ Hid (bd = bodyTo s nd k) ∧ Hid (n = cntTo nd k)) (fun _ _ kv => nst s - (intOf kv).toNat)
  case atStart => exact ⟨0, ⟨#[]⟩, 0, by omega, rfl, rfl, rfl, by omega, by simp [ByteArray.size], rfl, rfl⟩
  case round =>
    obtain ⟨k, bd, n, hk, rfl, rfl, rfl, hnk, hbk, HB, HC⟩ := hrel
    by_cases hlt : k < nst s
    · have hkn : k < nd.length := by rw [HNL.out]; exact hlt
      obtain ⟨gb, rfl, ck⟩ := tvs_cell hN HNL.out.symm hkn
      cases hdk : nd[k] with
      | true =>
        rw [hdk] at ck
        have HB2 : Hid (bd ++ s.extract (6 + 4 * k) (10 + 4 * k) = bodyTo s nd (k + 1)) := show _ = _ by rw [bodyTo_yes hkn hdk, HB.out]
        have HC2 : Hid (n + 1 = cntTo nd (k + 1)) := show _ = _ by rw [cntTo_yes hkn hdk, HC.out]
        have hsz : (bd ++ s.extract (6 + 4 * k) (10 + 4 * k)).size ≤ 4 * (k + 1) := by rw [ByteArray.size_append, ByteArray.size_extract]; omega
        have hse : 10 + 4 * k ≤ s.size := by have := HSZ.out; omega
        clear HB HC
        go_wp2_with fail
        go_round
        case rel => exact ⟨k + 1, _, n + 1, by omega, by go_num, rfl, by go_num, by omega, hsz, HB2, HC2⟩
        case measure => simp [intOf]; omega
      | false =>
        rw [hdk] at ck
        have HB2 : Hid (bd = bodyTo s nd (k + 1)) := show _ = _ by rw [bodyTo_no hkn hdk, HB.out]
        have HC2 : Hid (n = cntTo nd (k + 1)) := show _ = _ by rw [cntTo_no hkn hdk, HC.out]
        clear HB HC
        go_wp2_with fail
        go_round
        case rel => exact ⟨k + 1, bd, n, by omega, by go_num, rfl, rfl, by omega, by omega, HB2, HC2⟩
        case measure => simp [intOf]; omega
    · have hk' : k = nst s := by omega
      have HE2 : Hid (ans = s.extract 0 4 ++ ⟨#[UInt8.ofNat (n % 256), UInt8.ofNat (n / 256)]⟩ ++ bd) := show _ = _ by rw [HE.out, HB.out, HC.out, hk']
      have hse : 4 ≤ s.size := by omega
      clear hk' HE HB HC
      have hcv := two_bytes w3 n (by omega)
      have hse2 : (4 : Int) ≤ (s.size : Int) := by omega
      have hmE : Mod (fun _ => False) w (w3.alloc (.cells #[.int .u8 ((n : Int) % 256), .int .u8 ((n : Int) / 256)] 5)).drew := (hm.alloc _).drew
      go_wp2_with fail
      go_region
      go_wp2_with fail
      go_ret2
      exact ⟨by rw [HE2.out]; rfl, hmE⟩
end Go.Proofs.YtmnfndpbblpjiaaGreatDoor
