/- The document's scanner: letter, next, place. -/
import Derived.Test.YtmnfndpbblpjiaaGreatDoorBase
namespace Go.Proofs.YtmnfndpbblpjiaaGreatDoor
open Go.RowKit Pu

def Scn (w : World) (xb : Nat) (x : Sc) : Prop := w.heap[xb]? = some (.cells #[.int .i64 x.st, .int .i64 x.n, .int .i64 x.le, .int .i64 x.ar] 167 (0, 0))
section
variable {w : World} {xb st n le ar : Nat}
theorem Scn.c0 (h : Scn w xb ⟨st, n, le, ar⟩) : w.cell? ⟨xb, 0, none⟩ = some (.int .i64 st) := by unfold Scn at h; simp [World.cell?, h]
theorem Scn.c1 (h : Scn w xb ⟨st, n, le, ar⟩) : w.cell? ⟨xb, 1, none⟩ = some (.int .i64 n) := by unfold Scn at h; simp [World.cell?, h]
theorem Scn.c2 (h : Scn w xb ⟨st, n, le, ar⟩) : w.cell? ⟨xb, 2, none⟩ = some (.int .i64 le) := by unfold Scn at h; simp [World.cell?, h]
theorem Scn.c3 (h : Scn w xb ⟨st, n, le, ar⟩) : w.cell? ⟨xb, 3, none⟩ = some (.int .i64 ar) := by unfold Scn at h; simp [World.cell?, h]
theorem Scn.fz (h : Scn w xb ⟨st, n, le, ar⟩) (i : Nat) : w.frozen? ⟨xb, i, none⟩ = false := by unfold Scn at h; simp [World.frozen?, h]
theorem Scn.set0 (h : Scn w xb ⟨st, n, le, ar⟩) (j : Nat) : Scn (w.setCell ⟨xb, 0, none⟩ (.int .i64 j)) xb ⟨j, n, le, ar⟩ := by unfold Scn at *; simp [World.setCell, Array.getElem?_modify, h]
theorem Scn.set1 (h : Scn w xb ⟨st, n, le, ar⟩) (j : Nat) : Scn (w.setCell ⟨xb, 1, none⟩ (.int .i64 j)) xb ⟨st, j, le, ar⟩ := by unfold Scn at *; simp [World.setCell, Array.getElem?_modify, h]
theorem Scn.set2 (h : Scn w xb ⟨st, n, le, ar⟩) (j : Nat) : Scn (w.setCell ⟨xb, 2, none⟩ (.int .i64 j)) xb ⟨st, n, j, ar⟩ := by unfold Scn at *; simp [World.setCell, Array.getElem?_modify, h]
theorem Scn.set3 (h : Scn w xb ⟨st, n, le, ar⟩) (j : Nat) : Scn (w.setCell ⟨xb, 3, none⟩ (.int .i64 j)) xb ⟨st, n, le, j⟩ := by unfold Scn at *; simp [World.setCell, Array.getElem?_modify, h]
end

set_option maxHeartbeats 400000 in
theorem lettr (c : Nat) (w : World) : Calls Tryz.prog 82 #[.int .u8 c] w fun e w' => e = .returned (.bool (isL c)) ∧ w = w' := by
  go_enter Tryz.func82, Tryz.ntmps82
  go_wp2
  all_goals go_ret
  · exact ⟨by have : isL c = decide ((c : Int) ≤ 122) := by rw [isL, Bool.eq_iff_iff]; simp; omega
              rw [this]; rfl, rfl⟩
  · exact ⟨by have : isL c = false := by rw [isL, Bool.eq_false_iff]; simp; omega
              rw [this]; rfl, rfl⟩

/-- What next leaves. -/
def NextEnd (xb : Nat) (x : Sc) (c : Nat) (w : World) (e : Ending) (w' : World) : Prop :=
  (nx x c = none ∧ e = .returned (.bool false) ∧ w' = w) ∨ (∃ y, nx x c = some y ∧ e = .returned (.bool true) ∧ Scn w' xb y ∧ Mod (fun i => i = xb) w w')

theorem ne_no {xb : Nat} {x : Sc} {c : Nat} {w : World} (h : nx x c = none) : NextEnd xb x c w (.returned (.bool false)) w := .inl ⟨h, rfl, rfl⟩
theorem ne_yes {xb : Nat} {x y : Sc} {c : Nat} {w w' : World} (h : nx x c = some y) (hS : Scn w' xb y) (hm : Mod (fun i => i = xb) w w') : NextEnd xb x c w (.returned (.bool true)) w' := .inr ⟨y, h, rfl, hS, hm⟩
theorem mod1 (xb i : Nat) (w : World) (v : Value) : Mod (fun i => i = xb) w (w.setCell ⟨xb, i, none⟩ v) := (Mod.refl _ w).setCell _ _ (fun _ => rfl)
theorem mod2 (xb i j : Nat) (w : World) (v u : Value) : Mod (fun i => i = xb) w ((w.setCell ⟨xb, i, none⟩ v).setCell ⟨xb, j, none⟩ u) := (mod1 xb i w v).setCell _ _ (fun _ => rfl)

end Go.Proofs.YtmnfndpbblpjiaaGreatDoor
