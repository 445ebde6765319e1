/- The program's steps: what fits. -/
import Derived.Test.YtmnfndpbblpjiaaGreatDoorBase
import Derived.Test.YtmnfndpbblpjiaaGreatDoorPq
import Derived.Deep.WholeRow
namespace Go.Proofs.YtmnfndpbblpjiaaGreatDoor
open Go.RowKit Pu

def stA (t : Stp) : Array Value := #[.int .u8 t.op, .int .u8 t.x, .int .u8 t.y, .int .u8 t.z]
abbrev stV (t : Stp) : Value := .agg #[.int .u8 t.op, .int .u8 t.x, .int .u8 t.y, .int .u8 t.z]

theorem setsx_any (op : Nat) (w : World) (h : op < 256) : Calls Tryz.prog 73 #[.int .u8 op] w fun e w' => e = .returned (.bool (decide (op ≤ 5))) ∧ w = w' := by
  by_cases h5 : op ≤ 5
  · have : (op : Int) ≤ 5 := by omega
    go_enter Tryz.func73, Tryz.ntmps73
    go_wp2_with fail
    go_ret
    exact ⟨by simp [h5], rfl⟩
  · have : ¬ (op : Int) ≤ 5 := by omega
    go_enter Tryz.func73, Tryz.ntmps73
    go_wp2_with fail
    go_ret
    exact ⟨by simp, rfl⟩
theorem readsz_any (op : Nat) (w : World) (_h : op < 256) : Calls Tryz.prog 169 #[.int .u8 op] w fun e w' => e = .returned (.bool (rz op)) ∧ w = w' := by
  cases e2 : decide (op = 2) <;> cases e3 : decide (op = 3) <;> cases e4 : decide (op = 4)
  all_goals
    have HZ : Hid (rz op = (decide (op = 2) || decide (op = 3) || decide (op = 4))) := rfl
    rw [e2, e3, e4] at HZ
    simp only [decide_eq_true_eq, decide_eq_false_iff_not] at e2 e3 e4
    first
      | omega
      | (have b2 : ((op : Int) == 2) = true := beq_t e2
         clear e2 e3 e4
         go_enter Tryz.func169, Tryz.ntmps169
         go_wp2_with fail
         go_ret
         exact ⟨by rw [HZ.out]; rfl, rfl⟩)
      | (have b2 : ((op : Int) == 2) = false := beq_f e2
         have b3 : ((op : Int) == 3) = true := beq_t e3
         clear e2 e3 e4
         go_enter Tryz.func169, Tryz.ntmps169
         go_wp2_with fail
         go_ret
         exact ⟨by rw [HZ.out]; rfl, rfl⟩)
      | (have b2 : ((op : Int) == 2) = false := beq_f e2
         have b3 : ((op : Int) == 3) = false := beq_f e3
         have b4 : ((op : Int) == 4) = true := beq_t e4
         clear e2 e3 e4
         go_enter Tryz.func169, Tryz.ntmps169
         go_wp2_with fail
         go_ret
         exact ⟨by rw [HZ.out]; rfl, rfl⟩)
      | (have b2 : ((op : Int) == 2) = false := beq_f e2
         have b3 : ((op : Int) == 3) = false := beq_f e3
         have b4 : ((op : Int) == 4) = false := beq_f e4
         clear e2 e3 e4
         go_enter Tryz.func169, Tryz.ntmps169
         go_wp2_with fail
         go_ret
         exact ⟨by rw [HZ.out]; rfl, rfl⟩)
theorem readsy_any (op : Nat) (w : World) (h : op < 256) : Calls Tryz.prog 168 #[.int .u8 op] w fun e w' => e = .returned (.bool (ry op)) ∧ w = w' := by
  by_cases e5 : op = 5
  · have HZ : Hid (ry op = true) := show ry op = true by simp [ry, e5]
    have b5 : ((op : Int) == 5) = true := beq_t e5
    clear e5
    go_enter Tryz.func168, Tryz.ntmps168
    go_wp2_with fail
    go_ret
    exact ⟨by rw [HZ.out]; rfl, rfl⟩
  · have HZ : Hid (ry op = rz op) := show ry op = rz op by simp [ry, e5]
    have b5 : ((op : Int) == 5) = false := beq_f e5
    clear e5
    go_enter Tryz.func168, Tryz.ntmps168
    go_wp2_with (go_at_call 169; refine (readsz_any op _ h).mono ?_; rintro e w1 ⟨rfl, rfl⟩)
    go_ret
    exact ⟨by rw [HZ.out]; rfl, rfl⟩
end Go.Proofs.YtmnfndpbblpjiaaGreatDoor
