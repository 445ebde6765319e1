/- Codes: plain functions: steps, what sets a register, what is right. -/
import Derived.Test.YtmnfndpbblpjiaaGreatDoorPure
namespace Go.Proofs.YtmnfndpbblpjiaaGreatDoor.Pu

structure Stp where
  op : Nat
  x : Nat
  y : Nat
  z : Nat
def stepAt (s : ByteArray) (k : Nat) : Stp := ⟨g s (6 + 4 * k), g s (6 + 4 * k + 1), g s (6 + 4 * k + 2), g s (6 + 4 * k + 3)⟩
def nst (s : ByteArray) : Nat := (s.size - 6) / 4
def stepsTo (s : ByteArray) (n : Nat) : List Stp := (List.range n).map (stepAt s)
def steps (s : ByteArray) : List Stp := stepsTo s (nst s)
theorem stepsTo_len (s : ByteArray) (n : Nat) : (stepsTo s n).length = n := by simp [stepsTo]
theorem stepsTo_succ (s : ByteArray) (n : Nat) : stepsTo s (n + 1) = stepsTo s n ++ [stepAt s n] := by simp [stepsTo, List.range_succ]
theorem steps_at (s : ByteArray) (k : Nat) (h : k < (steps s).length) : (steps s)[k] = stepAt s k := by simp [steps, stepsTo]
def Small (t : Stp) : Prop := t.op < 256 ∧ t.x < 256 ∧ t.y < 256 ∧ t.z < 256
theorem stepAt_small (s : ByteArray) (k : Nat) : Small (stepAt s k) := ⟨g_lt s _, g_lt s _, g_lt s _, g_lt s _⟩
theorem steps_small (s : ByteArray) : ∀ t ∈ steps s, Small t := by
  intro t ht
  simp [steps, stepsTo] at ht
  obtain ⟨k, _, rfl⟩ := ht
  exact stepAt_small s k

def begunB (s : ByteArray) : Bool :=
  decide (6 ≤ s.size) && (decide (g s 0 = 82) && decide (g s 1 = 85)) && decide (1 ≤ g s 2) && decide (g s 2 ≤ 128) && decide (g s 3 ≤ 32) && decide (g s 5 * 256 + g s 4 ≤ 2000) && decide (s.size = 6 + 4 * (g s 5 * 256 + g s 4))

/-- The last step ahead of k that sets r. -/
def setterI (l : List Stp) (r : Nat) : Nat → Int
  | 0 => -1
  | k + 1 => match l[k]? with
    | some t => if t.op ≤ 5 ∧ t.x = r then (k : Int) else setterI l r k
    | none => setterI l r k
def readsOf (t : Stp) : List Nat := (if 2 ≤ t.op ∧ t.op ≤ 5 then [t.y] else []) ++ (if 2 ≤ t.op ∧ t.op ≤ 4 then [t.z] else []) ++ (if 6 ≤ t.op then [t.x] else [])
def properB (t : Stp) (regs ins : Nat) : Bool :=
  if 7 < t.op ∨ regs ≤ t.x then false
  else if t.op = 0 ∧ ins ≤ t.y then false
  else if t.op = 6 ∧ t.y ≠ 0 then false
  else if t.op = 7 then decide (t.y < 3) && decide (t.z < 16)
  else decide (t.z = 0) || (decide (2 ≤ t.op) && decide (t.op ≤ 4))
def rightB (l : List Stp) (k : Nat) (t : Stp) (regs ins : Nat) : Bool := properB t regs ins && (readsOf t).all fun r => decide (r < regs) && decide (0 ≤ setterI l r k)

theorem setterI_lt (l : List Stp) (r : Nat) : ∀ k, setterI l r k < k := by
  intro k
  induction k with
  | zero => simp [setterI]
  | succ k ih =>
    simp only [setterI]
    split
    · split
      · omega
      · omega
    · omega
theorem setterI_ge (l : List Stp) (r : Nat) : ∀ k, -1 ≤ setterI l r k := by
  intro k
  induction k with
  | zero => simp [setterI]
  | succ k ih =>
    simp only [setterI]
    split
    · split <;> omega
    · omega
theorem setterI_hit {l : List Stp} {r k : Nat} (hk : k < l.length) (h : l[k].op ≤ 5 ∧ l[k].x = r) : setterI l r (k + 1) = (k : Int) := by simp [setterI, hk, h]
theorem setterI_miss {l : List Stp} {r k : Nat} (hk : k < l.length) (h : ¬ (l[k].op ≤ 5 ∧ l[k].x = r)) : setterI l r (k + 1) = setterI l r k := by
  simp only [setterI, List.getElem?_eq_getElem hk]
  rw [if_neg h]
theorem readsOf_len (t : Stp) : (readsOf t).length ≤ 3 := by unfold readsOf; repeat' split
                                                             all_goals simp

/-- What Verify answers of a text that is not too long. -/
def vfy (s : ByteArray) : Nat × Nat :=
  if begunB s = false then (8, 0)
  else match (List.range (nst s)).find? fun k => !rightB (steps s) k (stepAt s k) (g s 2) (g s 3) with
    | some k => (8, 1 + k)
    | none => (0, 0)
theorem vfy_bad {s : ByteArray} (h : begunB s = false) : vfy s = (8, 0) := by simp [vfy, h]
theorem vfy_at {s : ByteArray} {k : Nat} (h : begunB s = true) (hk : k < nst s) (hb : rightB (steps s) k (stepAt s k) (g s 2) (g s 3) = false) (ha : ∀ j, j < k → rightB (steps s) j (stepAt s j) (g s 2) (g s 3) = true) : vfy s = (8, 1 + k) := by
  have : (List.range (nst s)).find? (fun k => !rightB (steps s) k (stepAt s k) (g s 2) (g s 3)) = some k := by
    rw [List.find?_range_eq_some]
    exact ⟨by simp [hb], by simpa using hk, fun j hj => by simp [ha j hj]⟩
  simp [vfy, h, this]
theorem vfy_ok {s : ByteArray} (h : begunB s = true) (ha : ∀ j, j < nst s → rightB (steps s) j (stepAt s j) (g s 2) (g s 3) = true) : vfy s = (0, 0) := by
  have : (List.range (nst s)).find? (fun k => !rightB (steps s) k (stepAt s k) (g s 2) (g s 3)) = none := by
    rw [List.find?_eq_none]
    intro j hj
    simp [ha j (by simpa using hj)]
  simp [vfy, h, this]
theorem nst_of {s : ByteArray} (h : begunB s = true) : 6 ≤ s.size ∧ nst s = g s 5 * 256 + g s 4 ∧ nst s ≤ 2000 ∧ s.size = 6 + 4 * nst s ∧ 1 ≤ g s 2 ∧ g s 2 ≤ 128 ∧ g s 3 ≤ 32 := by
  simp only [begunB, Bool.and_eq_true, decide_eq_true_eq] at h
  unfold nst
  omega

end Go.Proofs.YtmnfndpbblpjiaaGreatDoor.Pu
