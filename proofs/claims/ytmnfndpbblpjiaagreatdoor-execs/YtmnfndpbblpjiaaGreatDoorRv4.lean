/- The document's head of a code, and its Verify. -/
import Derived.Test.YtmnfndpbblpjiaaGreatDoorRv3
namespace Go.Proofs.YtmnfndpbblpjiaaGreatDoor
open Go.RowKit Pu

theorem Pu.ru_iff {s : ByteArray} (h6 : 6 ≤ s.size) : ((s.extract 0 2).toList == [82, 85]) = (decide (g s 0 = 82) && decide (g s 1 = 85)) := by
  have h0 : 0 < s.size := by omega
  have h1 : 1 < s.size := by omega
  have e : (s.extract 0 2).toList = [s[0], s[1]] := by
    have e1 : s.extract 0 2 = ⟨[s[0], s[1]].toArray⟩ := by
      apply ByteArray.ext
      rw [ByteArray.data_extract]
      apply Array.ext
      · have : s.data.size = s.size := rfl
        simp; omega
      · intro i h1' h2'
        have hi : i < 2 := by simpa using h2'
        match i, hi with
        | 0, _ => simp; rfl
        | 1, _ => simp; rfl
    rw [e1, ByteArray.toList_mk]
  rw [e, g_in h0, g_in h1, Bool.eq_iff_iff]
  simp [UInt8.toNat_inj.symm]

set_option maxHeartbeats 800000 in
set_option maxRecDepth 100000 in
theorem begun_any (s : ByteArray) (w : World) (hs : s.size ≤ 8006) : Calls Tryz.prog 68 #[.string s] w fun e w' => e = .returned (.bool (begunB s)) ∧ Mod (fun _ => False) w w' := by
  by_cases h6 : 6 ≤ s.size
  · have h2 : 2 < s.size := by omega
    have h3 : 3 < s.size := by omega
    have h4 : 4 < s.size := by omega
    have h5 : 5 < s.size := by omega
    have i4 : (4 : Int) < (s.size : Int) := by omega
    have i5 : (5 : Int) < (s.size : Int) := by omega
    have hsm : ∀ i (h : i < s.size), s[i].toNat < 256 := fun i h => s[i].toNat_lt
    have l2 := hsm 2 (by omega)
    have l3 := hsm 3 (by omega)
    have l4 := hsm 4 (by omega)
    have l5 := hsm 5 (by omega)
    clear hsm
    have HB : Hid (begunB s = (((s.extract 0 2).toList == [82, 85]) && decide (1 ≤ (s[2]'h2).toNat) && decide ((s[2]'h2).toNat ≤ 128) && decide ((s[3]'h3).toNat ≤ 32) && decide ((s[5]'h5).toNat * 256 + (s[4]'h4).toNat ≤ 2000) && decide (s.size = 6 + 4 * ((s[5]'h5).toNat * 256 + (s[4]'h4).toNat)))) := show begunB s = _ by
      rw [ru_iff h6]; simp only [begunB, g_in (show 2 < s.size by omega), g_in (show 3 < s.size by omega), g_in (show 4 < s.size by omega), g_in (show 5 < s.size by omega)]; simp [h6]
    generalize begunB s = bb at *
    cases hru : ((s.extract 0 2).toList == [82, 85]) with
    | false =>
      have HR : Hid (bb = false) := show bb = false by rw [HB.out, hru]; simp
      go_enter Tryz.func68, Tryz.ntmps68
      go_wp2_with fail
      go_ret
      exact ⟨by rw [HR.out]; rfl, Mod.refl _ _⟩
    | true =>
      have HB2 : Hid (bb = (decide (1 ≤ (s[2]'h2).toNat) && decide ((s[2]'h2).toNat ≤ 128) && decide ((s[3]'h3).toNat ≤ 32) && decide ((s[5]'h5).toNat * 256 + (s[4]'h4).toNat ≤ 2000) && decide (s.size = 6 + 4 * ((s[5]'h5).toNat * 256 + (s[4]'h4).toNat)))) := show bb = _ by rw [HB.out, hru]; simp
      clear HB
      by_cases a1 : 1 ≤ (s[2]'h2).toNat
      · by_cases a2 : (s[2]'h2).toNat ≤ 128
        · by_cases a3 : (s[3]'h3).toNat ≤ 32
          · by_cases a4 : (s[5]'h5).toNat * 256 + (s[4]'h4).toNat ≤ 2000
            · by_cases a5 : s.size = 6 + 4 * ((s[5]'h5).toNat * 256 + (s[4]'h4).toNat)
              · have HR : Hid (bb = true) := show bb = true by rw [HB2.out]; simp [a1, a2, a3, a4]; exact a5
                have hb : ((s.size : Int) == (6 : Int) + (4 : Int) * (((s[5]'h5).toNat : Int) * (256 : Int) + ((s[4]'h4).toNat : Int))) = true := by rw [beq_iff_eq]; omega
                clear a5 HB2
                go_enter Tryz.func68, Tryz.ntmps68
                go_wp2_with fail
                go_quiet (fail)
                go_wp2_with fail
                go_ret
                exact ⟨by rw [HR.out]; rfl, (Mod.refl _ _).drewN _⟩
              · have HR : Hid (bb = false) := show bb = false by rw [HB2.out]; simp [a1, a2, a3, a4]; exact a5
                have hb : ((s.size : Int) == (6 : Int) + (4 : Int) * (((s[5]'h5).toNat : Int) * (256 : Int) + ((s[4]'h4).toNat : Int))) = false := by rw [beq_eq_false_iff_ne]; omega
                clear HB2
                go_enter Tryz.func68, Tryz.ntmps68
                go_wp2_with fail
                go_quiet (fail)
                go_wp2_with fail
                go_ret
                exact ⟨by rw [HR.out]; rfl, (Mod.refl _ _).drewN _⟩
            · have HR : Hid (bb = false) := show bb = false by rw [HB2.out]; simp [a4]
              clear HB2
              go_enter Tryz.func68, Tryz.ntmps68
              go_wp2_with fail
              go_quiet (fail)
              go_wp2_with fail
              go_ret
              exact ⟨by rw [HR.out]; rfl, (Mod.refl _ _).drewN _⟩
          · have HR : Hid (bb = false) := show bb = false by rw [HB2.out]; simp [a3]
            clear HB2
            go_enter Tryz.func68, Tryz.ntmps68
            go_wp2_with fail
            go_quiet (fail)
            go_wp2_with fail
            go_ret
            exact ⟨by rw [HR.out]; rfl, (Mod.refl _ _).drewN _⟩
        · have HR : Hid (bb = false) := show bb = false by rw [HB2.out]; simp [a2]
          clear HB2
          go_enter Tryz.func68, Tryz.ntmps68
          go_wp2_with fail
          go_quiet (fail)
          go_wp2_with fail
          go_ret
          exact ⟨by rw [HR.out]; rfl, (Mod.refl _ _).drewN _⟩
      · have HR : Hid (bb = false) := show bb = false by rw [HB2.out]; simp [a1]
        clear HB2
        go_enter Tryz.func68, Tryz.ntmps68
        go_wp2_with fail
        go_quiet (fail)
        go_wp2_with fail
        go_ret
        exact ⟨by rw [HR.out]; rfl, (Mod.refl _ _).drewN _⟩
  · have HR : Hid (begunB s = false) := show begunB s = false by simp [begunB, h6]
    go_enter Tryz.func68, Tryz.ntmps68
    go_wp2_with fail
    go_ret
    exact ⟨by rw [HR.out]; rfl, Mod.refl _ _⟩
end Go.Proofs.YtmnfndpbblpjiaaGreatDoor
