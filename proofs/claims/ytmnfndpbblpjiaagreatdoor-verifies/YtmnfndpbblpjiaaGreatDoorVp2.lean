/- The program's operandsFit. -/
import Derived.Test.YtmnfndpbblpjiaaGreatDoorVp1
namespace Go.Proofs.YtmnfndpbblpjiaaGreatDoor
open Go.RowKit Pu

set_option maxHeartbeats 800000 in
theorem opfit_any (t : Stp) (ins : Nat) (w : World) (ht : Small t) (_hi : ins < 256) : Calls Tryz.prog 116 #[stV t, .int .u8 ins] w fun e w' => e = .returned (.bool (opFit t ins)) ∧ Mod (fun _ => False) w w' := by
  obtain ⟨op, x, y, z⟩ := t
  obtain ⟨h1, h2, h3, h4⟩ := ht
  simp only at h1 h2 h3 h4
  by_cases h7 : 7 < op
  · have HZ : Hid (opFit ⟨op, x, y, z⟩ ins = false) := show _ = false by
      simp [opFit, show ¬ op = 0 by omega, show ¬ op = 1 by omega, show ¬ op = 2 by omega, show ¬ op = 3 by omega, show ¬ op = 4 by omega, show ¬ op = 5 by omega, show ¬ op = 6 by omega, show ¬ op = 7 by omega]
    have b0 : ((op : Int) == 0) = false := beq_f (m := 0) (by omega)
    have b1 : ((op : Int) == 1) = false := beq_f (m := 1) (by omega)
    have b2 : ((op : Int) == 2) = false := beq_f (m := 2) (by omega)
    have b3 : ((op : Int) == 3) = false := beq_f (m := 3) (by omega)
    have b4 : ((op : Int) == 4) = false := beq_f (m := 4) (by omega)
    have b5 : ((op : Int) == 5) = false := beq_f (m := 5) (by omega)
    have b6 : ((op : Int) == 6) = false := beq_f (m := 6) (by omega)
    have b7 : ((op : Int) == 7) = false := beq_f (m := 7) (by omega)
    go_enter Tryz.func116, Tryz.ntmps116
    go_wp2_with fail
    go_ret
    exact ⟨by rw [HZ.out]; rfl, (Mod.refl _ _).alloc _⟩
  · have hop : op = 0 ∨ op = 1 ∨ op = 2 ∨ op = 3 ∨ op = 4 ∨ op = 5 ∨ op = 6 ∨ op = 7 := by omega
    clear h7 h1
    rcases hop with rfl | rfl | rfl | rfl | rfl | rfl | rfl | rfl
    · by_cases ha : y < ins
      · have ia : (y : Int) < (ins : Int) := by omega
        by_cases hb : z = 0
        · have ib : ((z : Int) == 0) = true := beq_t (m := 0) hb
          have HZ : Hid (opFit ⟨0, x, y, z⟩ ins = true) := show opFit ⟨0, x, y, z⟩ ins = true by simp [opFit, ha, hb]
          clear ha hb
          go_enter Tryz.func116, Tryz.ntmps116
          go_wp2_with fail
          go_ret
          exact ⟨by rw [HZ.out]; rfl, (Mod.refl _ _).alloc _⟩
        · have ib : ((z : Int) == 0) = false := beq_f (m := 0) hb
          have HZ : Hid (opFit ⟨0, x, y, z⟩ ins = false) := show opFit ⟨0, x, y, z⟩ ins = false by simp [opFit, hb]
          clear hb
          go_enter Tryz.func116, Tryz.ntmps116
          go_wp2_with fail
          go_ret
          exact ⟨by rw [HZ.out]; rfl, (Mod.refl _ _).alloc _⟩
      · have ia : ¬ (y : Int) < (ins : Int) := by omega
        have HZ : Hid (opFit ⟨0, x, y, z⟩ ins = false) := show opFit ⟨0, x, y, z⟩ ins = false by simp [opFit, ha]
        clear ha
        go_enter Tryz.func116, Tryz.ntmps116
        go_wp2_with fail
        go_ret
        exact ⟨by rw [HZ.out]; rfl, (Mod.refl _ _).alloc _⟩
    · by_cases hb : z = 0
      · have ib : ((z : Int) == 0) = true := beq_t (m := 0) hb
        have HZ : Hid (opFit ⟨1, x, y, z⟩ ins = true) := show opFit ⟨1, x, y, z⟩ ins = true by simp [opFit, hb]
        clear hb
        go_enter Tryz.func116, Tryz.ntmps116
        go_wp2_with fail
        go_ret
        exact ⟨by rw [HZ.out]; rfl, (Mod.refl _ _).alloc _⟩
      · have ib : ((z : Int) == 0) = false := beq_f (m := 0) hb
        have HZ : Hid (opFit ⟨1, x, y, z⟩ ins = false) := show opFit ⟨1, x, y, z⟩ ins = false by simp [opFit, hb]
        clear hb
        go_enter Tryz.func116, Tryz.ntmps116
        go_wp2_with fail
        go_ret
        exact ⟨by rw [HZ.out]; rfl, (Mod.refl _ _).alloc _⟩
    · have HZ : Hid (opFit ⟨2, x, y, z⟩ ins = true) := show opFit ⟨2, x, y, z⟩ ins = true by simp [opFit]
      go_enter Tryz.func116, Tryz.ntmps116
      go_wp2_with fail
      go_ret
      exact ⟨by rw [HZ.out]; rfl, (Mod.refl _ _).alloc _⟩
    · have HZ : Hid (opFit ⟨3, x, y, z⟩ ins = true) := show opFit ⟨3, x, y, z⟩ ins = true by simp [opFit]
      go_enter Tryz.func116, Tryz.ntmps116
      go_wp2_with fail
      go_ret
      exact ⟨by rw [HZ.out]; rfl, (Mod.refl _ _).alloc _⟩
    · have HZ : Hid (opFit ⟨4, x, y, z⟩ ins = true) := show opFit ⟨4, x, y, z⟩ ins = true by simp [opFit]
      go_enter Tryz.func116, Tryz.ntmps116
      go_wp2_with fail
      go_ret
      exact ⟨by rw [HZ.out]; rfl, (Mod.refl _ _).alloc _⟩
    · by_cases hb : z = 0
      · have ib : ((z : Int) == 0) = true := beq_t (m := 0) hb
        have HZ : Hid (opFit ⟨5, x, y, z⟩ ins = true) := show opFit ⟨5, x, y, z⟩ ins = true by simp [opFit, hb]
        clear hb
        go_enter Tryz.func116, Tryz.ntmps116
        go_wp2_with fail
        go_ret
        exact ⟨by rw [HZ.out]; rfl, (Mod.refl _ _).alloc _⟩
      · have ib : ((z : Int) == 0) = false := beq_f (m := 0) hb
        have HZ : Hid (opFit ⟨5, x, y, z⟩ ins = false) := show opFit ⟨5, x, y, z⟩ ins = false by simp [opFit, hb]
        clear hb
        go_enter Tryz.func116, Tryz.ntmps116
        go_wp2_with fail
        go_ret
        exact ⟨by rw [HZ.out]; rfl, (Mod.refl _ _).alloc _⟩
    · by_cases ha : y = 0
      · have ia : ((y : Int) == 0) = true := beq_t (m := 0) ha
        by_cases hb : z = 0
        · have ib : ((z : Int) == 0) = true := beq_t (m := 0) hb
          have HZ : Hid (opFit ⟨6, x, y, z⟩ ins = true) := show opFit ⟨6, x, y, z⟩ ins = true by simp [opFit, ha, hb]
          clear ha hb
          go_enter Tryz.func116, Tryz.ntmps116
          go_wp2_with fail
          go_ret
          exact ⟨by rw [HZ.out]; rfl, (Mod.refl _ _).alloc _⟩
        · have ib : ((z : Int) == 0) = false := beq_f (m := 0) hb
          have HZ : Hid (opFit ⟨6, x, y, z⟩ ins = false) := show opFit ⟨6, x, y, z⟩ ins = false by simp [opFit, hb]
          clear hb
          go_enter Tryz.func116, Tryz.ntmps116
          go_wp2_with fail
          go_ret
          exact ⟨by rw [HZ.out]; rfl, (Mod.refl _ _).alloc _⟩
      · have ia : ((y : Int) == 0) = false := beq_f (m := 0) ha
        have HZ : Hid (opFit ⟨6, x, y, z⟩ ins = false) := show opFit ⟨6, x, y, z⟩ ins = false by simp [opFit, ha]
        clear ha
        go_enter Tryz.func116, Tryz.ntmps116
        go_wp2_with fail
        go_ret
        exact ⟨by rw [HZ.out]; rfl, (Mod.refl _ _).alloc _⟩
    · by_cases ha : y < 3
      · have ia : (y : Int) < 3 := by omega
        by_cases hb : z < 16
        · have ib : (z : Int) < 16 := by omega
          have HZ : Hid (opFit ⟨7, x, y, z⟩ ins = true) := show opFit ⟨7, x, y, z⟩ ins = true by simp [opFit, ha, hb]
          clear ha hb
          go_enter Tryz.func116, Tryz.ntmps116
          go_wp2_with fail
          go_ret
          exact ⟨by rw [HZ.out]; rfl, (Mod.refl _ _).alloc _⟩
        · have ib : ¬ (z : Int) < 16 := by omega
          have HZ : Hid (opFit ⟨7, x, y, z⟩ ins = false) := show opFit ⟨7, x, y, z⟩ ins = false by simp [opFit, hb]
          clear hb
          go_enter Tryz.func116, Tryz.ntmps116
          go_wp2_with fail
          go_ret
          exact ⟨by rw [HZ.out]; rfl, (Mod.refl _ _).alloc _⟩
      · have ia : ¬ (y : Int) < 3 := by omega
        have HZ : Hid (opFit ⟨7, x, y, z⟩ ins = false) := show opFit ⟨7, x, y, z⟩ ins = false by simp [opFit, ha]
        clear ha
        go_enter Tryz.func116, Tryz.ntmps116
        go_wp2_with fail
        go_ret
        exact ⟨by rw [HZ.out]; rfl, (Mod.refl _ _).alloc _⟩
end Go.Proofs.YtmnfndpbblpjiaaGreatDoor
