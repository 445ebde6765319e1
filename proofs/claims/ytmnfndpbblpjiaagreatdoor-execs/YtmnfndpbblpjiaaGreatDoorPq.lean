/- Codes, as the program holds them: what fits, which registers are marked. -/
import Derived.Test.YtmnfndpbblpjiaaGreatDoorPv
namespace Go.Proofs.YtmnfndpbblpjiaaGreatDoor.Pu

def rz (op : Nat) : Bool := decide (op = 2) || decide (op = 3) || decide (op = 4)
def ry (op : Nat) : Bool := decide (op = 5) || rz op
def opFit (t : Stp) (ins : Nat) : Bool :=
  if t.op = 0 then decide (t.y < ins) && decide (t.z = 0)
  else if t.op = 1 ∨ t.op = 5 then decide (t.z = 0)
  else if t.op = 2 ∨ t.op = 3 ∨ t.op = 4 then true
  else if t.op = 6 then decide (t.y = 0) && decide (t.z = 0)
  else if t.op = 7 then decide (t.y < 3) && decide (t.z < 16)
  else false
def rdFit (M : Nat → Bool) (t : Stp) : Bool := (decide (t.op ≤ 5) || M t.x) && (!(ry t.op) || M t.y) && (!(rz t.op) || M t.z)
def stFit (M : Nat → Bool) (t : Stp) (regs ins : Nat) : Bool := opFit t ins && decide (t.x < regs) && rdFit M t
/-- Which registers a step ahead of k sets. -/
def Set (l : List Stp) (k : Nat) : Nat → Bool := fun r => decide (0 ≤ setterI l r k)
theorem Set_zero (l : List Stp) : Set l 0 = fun _ => false := by funext r; simp [Set, setterI]
theorem Set_yes {l : List Stp} {k : Nat} (hk : k < l.length) (h : l[k].op ≤ 5) : Set l (k + 1) = fun r => if r = l[k].x then true else Set l k r := by
  funext r
  unfold Set
  by_cases e : r = l[k].x
  · subst e; rw [setterI_hit hk ⟨h, rfl⟩, if_pos rfl]; simp
  · rw [setterI_miss hk (fun h2 => e h2.2.symm), if_neg e]
theorem Set_no {l : List Stp} {k : Nat} (hk : k < l.length) (h : ¬ l[k].op ≤ 5) : Set l (k + 1) = Set l k := by
  funext r
  unfold Set
  rw [setterI_miss hk (fun h2 => h h2.1)]
theorem proper_fit (t : Stp) (regs ins : Nat) : properB t regs ins = (opFit t ins && decide (t.x < regs)) := by
  unfold properB opFit
  rcases t with ⟨op, x, y, z⟩
  by_cases hx : regs ≤ x
  · simp [hx]
  · have hx' : x < regs := by omega
    simp only [hx, hx', or_false, decide_true, Bool.and_true]
    by_cases h7 : 7 < op
    · simp [h7, show ¬ op = 0 by omega, show ¬ op = 1 by omega, show ¬ op = 2 by omega, show ¬ op = 3 by omega, show ¬ op = 4 by omega, show ¬ op = 5 by omega, show ¬ op = 6 by omega, show ¬ op = 7 by omega]
    · have : op = 0 ∨ op = 1 ∨ op = 2 ∨ op = 3 ∨ op = 4 ∨ op = 5 ∨ op = 6 ∨ op = 7 := by omega
      rcases this with rfl | rfl | rfl | rfl | rfl | rfl | rfl | rfl <;> simp
      · by_cases hy : ins ≤ y
        · simp [hy, show ¬ y < ins by omega]
        · simp [hy, show y < ins by omega]
theorem right_fit (l : List Stp) (k : Nat) (t : Stp) (regs ins : Nat) (H : ∀ r, Set l k r = true → r < regs) : rightB l k t regs ins = stFit (Set l k) t regs ins := by
  unfold rightB stFit
  rw [proper_fit]
  cases h : opFit t ins && decide (t.x < regs)
  · rfl
  · simp only [Bool.true_and]
    have h7 : t.op ≤ 7 := by
      refine Nat.le_of_not_lt fun hh => ?_
      simp [opFit, show ¬ t.op = 0 by omega, show ¬ t.op = 1 by omega, show ¬ t.op = 2 by omega, show ¬ t.op = 3 by omega, show ¬ t.op = 4 by omega, show ¬ t.op = 5 by omega, show ¬ t.op = 6 by omega, show ¬ t.op = 7 by omega] at h
    have hm : ∀ r, (decide (r < regs) && decide (0 ≤ setterI l r k)) = Set l k r := fun r => by
      have := H r
      unfold Set at *
      by_cases e : 0 ≤ setterI l r k
      · simp [e, this (by simp [e])]
      · simp [e]
    simp only [hm]
    unfold readsOf rdFit ry rz
    have : t.op = 0 ∨ t.op = 1 ∨ t.op = 2 ∨ t.op = 3 ∨ t.op = 4 ∨ t.op = 5 ∨ t.op = 6 ∨ t.op = 7 := by omega
    rcases this with e | e | e | e | e | e | e | e <;> simp [e]
/-- What is set is below REGS, as long as all steps are right. -/
theorem Set_below {l : List Stp} {k regs ins : Nat} (hk : k ≤ l.length) (h : ∀ j (hj : j < k), rightB l j (l[j]'(by omega)) regs ins = true) : ∀ r, Set l k r = true → r < regs := by
  induction k with
  | zero => intro r hr; simp [Set_zero] at hr
  | succ k ih =>
    intro r hr
    have hkl : k < l.length := by omega
    by_cases h5 : l[k].op ≤ 5
    · rw [Set_yes hkl h5] at hr
      by_cases e : r = l[k].x
      · have := h k (by omega)
        unfold rightB at this
        rw [proper_fit] at this
        simp at this
        omega
      · simp only [if_neg e] at hr
        exact ih (by omega) (fun j hj => h j (by omega)) r hr
    · rw [Set_no hkl h5] at hr
      exact ih (by omega) (fun j hj => h j (by omega)) r hr
end Go.Proofs.YtmnfndpbblpjiaaGreatDoor.Pu
