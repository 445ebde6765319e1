/- The document's head of a code, and its Verify. -/
import Derived.Test.YtmnfndpbblpjiaaGreatDoorZa13
import Derived.Test.YtmnfndpbblpjiaaGreatDoorZa14
namespace Go.Proofs.YtmnfndpbblpjiaaGreatDoor
open Go.RowKit Pu
theorem Pu.ru_iff {s : ByteArray} (h6 : 6 ≤ s.size) : ((s.extract 0 2).toList == [82, 85]) = (decide (g s 0 = 82) && decide (g s 1 = 85)) := by
  have h0 : 0 < s.size := by omega
  have h1 : 1 < s.size := by omega
  have e : (s.extract 0 2).toList = [s[0], s[1]] := by
    have e1 : s.extract 0 2 = ⟨[s[0], s[1]].toArray⟩ := by
      apply ByteArray.ext
      rw [ByteArray.data_extract]
      apply Array.ext
      · have : s.data.size = s.size := rfl
        simp; omega
      · intro i h1' h2'
        have hi : i < 2 := by simpa using h2'
        match i, hi with
        | 0, _ => simp; rfl
        | 1, _ => simp; rfl
    rw [e1, ByteArray.toList_mk]
  rw [e, g_in h0, g_in h1, Bool.eq_iff_iff]
  simp [UInt8.toNat_inj.symm]
set_option maxHeartbeats 800000 in
set_option maxRecDepth 100000 in
theorem begun_any (s : ByteArray) (w : World) (hs : s.size ≤ 8006) : Calls Tryz.prog 68 #[.string s] w fun e w' => e = .returned (.bool (begunB s)) ∧ Mod (fun _ => False) w w' := by
  by_cases h6 : 6 ≤ s.size
  · have h2 : 2 < s.size := by omega
    have h3 : 3 < s.size := by omega
    have h4 : 4 < s.size := by omega
    have h5 : 5 < s.size := by omega
    have i4 : (4 : Int) < (s.size : Int) := by omega
    have i5 : (5 : Int) < (s.size : Int) := by omega
    have hsm : ∀ i (h : i < s.size), s[i].toNat < 256 := fun i h => s[i].toNat_lt
    have l2 := hsm 2 (by omega)
    have l3 := hsm 3 (by omega)
    have l4 := hsm 4 (by omega)
    have l5 := hsm 5 (by omega)
    clear hsm
    have HB : Hid (begunB s = (((s.extract 0 2).toList == [82, 85]) && decide (1 ≤ (s[2]'h2).toNat) && decide ((s[2]'h2).toNat ≤ 128) && decide ((s[3]'h3).toNat ≤ 32) && decide ((s[5]'h5).toNat * 256 + (s[4]'h4).toNat ≤ 2000) && decide (s.size = 6 + 4 * ((s[5]'h5).toNat * 256 + (s[4]'h4).toNat)))) := show begunB s = _ by
      rw [ru_iff h6]; simp only [begunB, g_in (show 2 < s.size by omega), g_in (show 3 < s.size by omega), g_in (show 4 < s.size by omega), g_in (show 5 < s.size by omega)]; simp [h6]
    generalize begunB s = bb at *
    cases hru : ((s.extract 0 2).toList == [82, 85]) with
    | false =>
      have HR : Hid (bb = false) := show bb = false by rw [HB.out, hru]; simp
      go_enter Tryz.func68, Tryz.ntmps68
      go_wp2_with fail
      go_ret
      exact ⟨by rw [HR.out]; rfl, Mod.refl _ _⟩
    | true =>
      have HB2 : Hid (bb = (decide (1 ≤ (s[2]'h2).toNat) && decide ((s[2]'h2).toNat ≤ 128) && decide ((s[3]'h3).toNat ≤ 32) && decide ((s[5]'h5).toNat * 256 + (s[4]'h4).toNat ≤ 2000) && decide (s.size = 6 + 4 * ((s[5]'h5).toNat * 256 + (s[4]'h4).toNat)))) := show bb = _ by rw [HB.out, hru]; simp
      clear HB
      by_cases a1 : 1 ≤ (s[2]'h2).toNat
      · by_cases a2 : (s[2]'h2).toNat ≤ 128
        · by_cases a3 : (s[3]'h3).toNat ≤ 32
          · by_cases a4 : (s[5]'h5).toNat * 256 + (s[4]'h4).toNat ≤ 2000
            · by_cases a5 : s.size = 6 + 4 * ((s[5]'h5).toNat * 256 + (s[4]'h4).toNat)
              · have HR : Hid (bb = true) := show bb = true by rw [HB2.out]; simp [a1, a2, a3, a4]; exact a5
                have hb : ((s.size : Int) == (6 : Int) + (4 : Int) * (((s[5]'h5).toNat : Int) * (256 : Int) + ((s[4]'h4).toNat : Int))) = true := by rw [beq_iff_eq]; omega
                clear a5 HB2
                go_enter Tryz.func68, Tryz.ntmps68
                go_wp2_with fail
                go_quiet (fail)
                go_wp2_with fail
                go_ret
                exact ⟨by rw [HR.out]; rfl, (Mod.refl _ _).drewN _⟩
              · have HR : Hid (bb = false) := show bb = false by rw [HB2.out]; simp [a1, a2, a3, a4]; exact a5
                have hb : ((s.size : Int) == (6 : Int) + (4 : Int) * (((s[5]'h5).toNat : Int) * (256 : Int) + ((s[4]'h4).toNat : Int))) = false := by rw [beq_eq_false_iff_ne]; omega
                clear HB2
                go_enter Tryz.func68, Tryz.ntmps68
                go_wp2_with fail
                go_quiet (fail)
                go_wp2_with fail
                go_ret
                exact ⟨by rw [HR.out]; rfl, (Mod.refl _ _).drewN _⟩
            · have HR : Hid (bb = false) := show bb = false by rw [HB2.out]; simp [a4]
              clear HB2
              go_enter Tryz.func68, Tryz.ntmps68
              go_wp2_with fail
              go_quiet (fail)
              go_wp2_with fail
              go_ret
              exact ⟨by rw [HR.out]; rfl, (Mod.refl _ _).drewN _⟩
          · have HR : Hid (bb = false) := show bb = false by rw [HB2.out]; simp [a3]
            clear HB2
            go_enter Tryz.func68, Tryz.ntmps68
            go_wp2_with fail
            go_quiet (fail)
            go_wp2_with fail
            go_ret
            exact ⟨by rw [HR.out]; rfl, (Mod.refl _ _).drewN _⟩
        · have HR : Hid (bb = false) := show bb = false by rw [HB2.out]; simp [a2]
          clear HB2
          go_enter Tryz.func68, Tryz.ntmps68
          go_wp2_with fail
          go_quiet (fail)
          go_wp2_with fail
          go_ret
          exact ⟨by rw [HR.out]; rfl, (Mod.refl _ _).drewN _⟩
      · have HR : Hid (bb = false) := show bb = false by rw [HB2.out]; simp [a1]
        clear HB2
        go_enter Tryz.func68, Tryz.ntmps68
        go_wp2_with fail
        go_quiet (fail)
        go_wp2_with fail
        go_ret
        exact ⟨by rw [HR.out]; rfl, (Mod.refl _ _).drewN _⟩
  · have HR : Hid (begunB s = false) := show begunB s = false by simp [begunB, h6]
    go_enter Tryz.func68, Tryz.ntmps68
    go_wp2_with fail
    go_ret
    exact ⟨by rw [HR.out]; rfl, Mod.refl _ _⟩
end Go.Proofs.YtmnfndpbblpjiaaGreatDoor

/- The document's Verify. -/
namespace Go.Proofs.YtmnfndpbblpjiaaGreatDoor
open Go.RowKit Pu
attribute [local go_sem] wrap_b
set_option maxHeartbeats 400000 in
theorem rverify_long (s : ByteArray) (w : World) (hs : 8006 < s.size) (hm : s.size ≤ maxLen) : Calls Tryz.prog 39 #[.string s] w fun e w' => e = .returned (.tuple #[.int .i64 1, .int .i64 0]) ∧ w = w' := by
  unfold maxLen at hm
  go_enter Tryz.func39, Tryz.ntmps39
  go_wp2_with fail
  go_ret2
  exact ⟨rfl, rfl⟩
set_option maxHeartbeats 800000 in
set_option maxRecDepth 100000 in
theorem rverify_any (s : ByteArray) (w : World) (hs : s.size ≤ 8006) : Calls Tryz.prog 39 #[.string s] w fun e w' => e = .returned (.tuple #[.int .i64 (vfy s).1, .int .i64 (vfy s).2]) ∧ Mod (fun _ => False) w w' := by
  cases hb : begunB s with
  | false =>
    have HV : Hid (vfy s = (8, 0)) := vfy_bad hb
    go_enter Tryz.func39, Tryz.ntmps39
    go_wp2_with fail
    refine (begun_any s w hs).mono ?_
    rintro e w1 ⟨rfl, hm1⟩
    go_wp2_with fail
    go_ret2
    exact ⟨by rw [HV.out]; rfl, hm1⟩
  | true =>
    obtain ⟨h6, -, hn, -, -, -, -⟩ := nst_of hb
    have HB : Hid (begunB s = true) := hb
    have hq : begunB s = true := hb
    clear hb
    have h2 : 2 < s.size := by omega
    have h3 : 3 < s.size := by omega
    have j2 : (2 : Int) < (s.size : Int) := by omega
    have j3 : (3 : Int) < (s.size : Int) := by omega
    have HG2 : Hid (g s 2 = (s[2]'h2).toNat) := g_in h2
    have HG3 : Hid (g s 3 = (s[3]'h3).toNat) := g_in h3
    have l2 := g_lt s 2
    have l3 := g_lt s 3
    have hlen : (steps s).length = nst s := stepsTo_len s _
    have HLen : Hid ((steps s).length = nst s) := hlen
    go_enter Tryz.func39, Tryz.ntmps39
    go_wp2_with fail
    refine (begun_any s w hs).mono ?_
    rintro e w1 ⟨rfl, hm1⟩
    clear hlen
    go_wp2_with fail
    refine (steps_any s w1 hs).mono ?_
    rintro e w2 ⟨hm2, v, rfl, hL⟩
    clear hq
    have hm := hm1.trans hm2
    clear hm1 hm2
    unfold TLst at hL
    rw [HLen.out] at hL
    obtain ⟨ao, cap, rfl, -⟩ := owns_form hL
    go_wp2_with fail
    go_loopw [6] (fun i wr => ∃ k : Nat, k ≤ nst s ∧ i = .int .i64 k ∧ wr.ownsRow w1.heap.size 114 4 (.slice ao (nst s) cap) (nst s) (tcellsOf (steps s)) ∧ Mod (fun _ => False) w wr ∧ Hid (∀ j, j < k → rightB (steps s) j (stepAt s j) (g s 2) (g s 3) = true)) (fun i _ => nst s - (intOf i).toNat)
    case atStart => exact ⟨0, by omega, rfl, hL, hm, fun j hj => by omega⟩
    case round =>
      clear hL hm
      obtain ⟨k, hk, rfl, hL, hm, HN⟩ := hrel
      by_cases hlt : k < nst s
      · have hLT : TLst wr w1.heap.size (.slice ao (nst s) cap) (steps s) := by unfold TLst; rw [HLen.out]; exact hL
        have hkl : k < (steps s).length := by rw [HLen.out]; exact hlt
        have hR : Calls Tryz.prog 69 #[.slice ao (nst s) cap, .int .i64 k, .int .i64 (s[2]'h2).toNat, .int .i64 (s[3]'h3).toNat] wr.drew fun e w' => e = .returned (.bool (rightB (steps s) k (stepAt s k) (g s 2) (g s 3))) ∧ Mod (fun _ => False) wr w' := by
          have := right_any (.slice ao (nst s) cap) (steps s) k (g s 2) (g s 3) w1.heap.size wr.drew (by rw [HLen.out]; omega) hkl (owns_mod hLT (Mod.refl (fun _ => False) wr).drew (fun _ _ f => f)) (steps_small s) l2 l3
          rw [steps_at, HG2.out, HG3.out] at this
          rw [HG2.out, HG3.out]
          exact this.mono fun e w' ⟨h1, h2⟩ => ⟨h1, (Mod.refl (fun _ => False) wr).drew.trans h2⟩
        have HR : Hid (Calls Tryz.prog 69 #[.slice ao (nst s) cap, .int .i64 k, .int .i64 (s[2]'h2).toNat, .int .i64 (s[3]'h3).toNat] wr.drew fun e w' => e = .returned (.bool (rightB (steps s) k (stepAt s k) (g s 2) (g s 3))) ∧ Mod (fun _ => False) wr w') := hR
        clear hR hLT hkl
        have HV : Hid (rightB (steps s) k (stepAt s k) (g s 2) (g s 3) = false → vfy s = (8, 1 + k)) := fun h => vfy_at HB.out hlt h HN.out
        have HNN : Hid (rightB (steps s) k (stepAt s k) (g s 2) (g s 3) = true → ∀ j, j < k + 1 → rightB (steps s) j (stepAt s j) (g s 2) (g s 3) = true) := fun h j hj => by
          by_cases e : j = k
          · subst e; exact h
          · exact HN.out j (by omega)
        generalize rightB (steps s) k (stepAt s k) (g s 2) (g s 3) = rb at *
        go_wp2_with fail
        go_region_held3 (fun _ => True) (trivial) ((go_at_call 69; refine HR.out.mono ?_; rintro e w3 ⟨rfl, hm3⟩))
        all_goals
          have hm4 := hm.trans hm3
          have hL4 := owns_mod hL hm3 (fun _ _ f => f)
          clear hm hm3 hL
          cases rb with
          | false =>
            have HV2 : Hid (vfy s = (8, 1 + k)) := HV.out rfl
            go_wp2_with fail
            go_ret2
            exact ⟨by rw [HV2.out]; rfl, hm4⟩
          | true =>
            have HN2 := HNN.out rfl
            go_wp2_with fail
            go_roundw
            case rel => exact ⟨k + 1, by omega, by go_num, hL4, hm4, HN2⟩
            case measure => simp [intOf]; omega
      · have HV : Hid (vfy s = (0, 0)) := vfy_ok HB.out (fun j hj => HN.out j (by omega))
        go_wp2_with fail
        go_ret2
        exact ⟨by rw [HV.out]; rfl, hm⟩
end Go.Proofs.YtmnfndpbblpjiaaGreatDoor
