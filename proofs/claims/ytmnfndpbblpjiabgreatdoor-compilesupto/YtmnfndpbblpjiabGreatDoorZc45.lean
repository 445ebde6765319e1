/- A script's steps, gone through: what every statement over scripts shares. -/
import Derived.Test.YtmnfndpbblpjiabGreatDoorZc02
namespace Go.Proofs.YtmnfndpbblpjiabGreatDoor
open Go.RowKit
abbrev op4 (kd n : Int) (a b : ByteArray) : Value := .agg #[.int .i64 kd,.int .i64 n,.string a,.string b]
def Ope (w : World) (ob : Nat) (kd n : Int) (a b : ByteArray) : Prop := w.heap[ob]? = some (.cells #[.int .i64 kd,.int .i64 n,.string a,.string b] 56 (0,0))
section
variable {w w' : World} {ob : Nat} {kd n : Int} {a b : ByteArray}
theorem Ope.c2 (h : Ope w ob kd n a b) : w.cell? ⟨ob,2,none⟩ = some (.string a) := by unfold Ope at h; simp [World.cell?,h]
theorem Ope.c3 (h : Ope w ob kd n a b) : w.cell? ⟨ob,3,none⟩ = some (.string b) := by unfold Ope at h; simp [World.cell?,h]
theorem Ope.keep {p : Nat → Prop} (h : Ope w ob kd n a b) (hm : Mod p w w') (hp : ¬ p ob) : Ope w' ob kd n a b := hm.keep h hp
theorem ope_new (w : World) (kd n : Int) (a b : ByteArray) : Ope (w.alloc (.cells #[.int .i64 kd,.int .i64 n,.string a,.string b] 56)) w.heap.size kd n a b := by
 unfold Ope; show (w.heap.push _)[w.heap.size]? = _; simp
end
set_option maxHeartbeats 400000 in
theorem num_any (n : Int) (w : World) : Calls Tryz.prog 39 #[.int .i64 n] w fun e w' => e = .returned (.int .i64 n) ∧ w = w' := by
 go_enter Tryz.func39,Tryz.ntmps39
 go_wp2
 go_ret
 exact ⟨rfl,rfl⟩
def Plays (lo hi : Int) : Prop := ∀ (kd n : Int) (a b : ByteArray) (w : World),lo ≤ kd → kd ≤ hi → a.size ≤ maxLen → b.size ≤ maxLen → (Lit.int .i64 n).wf = true →
 Calls Tryz.prog 30 #[op4 kd n a b] w fun e w' => e = .returned (.bool true) ∧ Mod (fun _ => False) w w'
end Go.Proofs.YtmnfndpbblpjiabGreatDoor
