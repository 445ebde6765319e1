/- The program's marks of registers; readsFit, stepFits. -/
import Derived.Test.YtmnfndpbblpjiaaGreatDoorVp2
namespace Go.Proofs.YtmnfndpbblpjiaaGreatDoor
open Go.RowKit Pu

def mcells (M : Nat → Bool) : Array Value := Array.ofFn (n := 256) fun i => .bool (M i)
theorem mcells_size (M : Nat → Bool) : (mcells M).size = 256 := by simp [mcells]
theorem mcells_at (M : Nat → Bool) {r : Nat} (h : r < 256) : (mcells M)[r]? = some (.bool (M r)) := by simp [mcells, h]
theorem mcells_get (M : Nat → Bool) {r : Nat} (hr : r < 256) : ∀ h' : r < (mcells M).size, (mcells M)[r] = .bool (M r) := fun h' => by
  have := mcells_at M hr
  rw [Array.getElem?_eq_getElem h'] at this
  exact Option.some.inj this
theorem mcells_set (M : Nat → Bool) (r : Nat) (b : Bool) : (mcells M).setIfInBounds r (.bool b) = mcells (fun i => if i = r then b else M i) := by
  apply Array.ext
  · simp [mcells]
  · intro i h1 h2
    have hi : i < 256 := by simpa [mcells] using h2
    rw [Array.getElem_setIfInBounds (by simpa [mcells] using hi)]
    by_cases e : r = i
    · subst e; simp [mcells]
    · simp [mcells, e, show ¬ i = r from fun h => e h.symm]
theorem mcells_none : mcells (fun _ => false) = Array.replicate 256 (.bool false) := by
  apply Array.ext
  · simp [mcells]
  · intro i h1 h2; simp [mcells]
theorem mcells_one (M : Nat → Bool) : (mcells M).all (·.oneCell') = true := by
  rw [Array.all_eq_true_iff_forall_mem]
  intro v hv
  simp [mcells] at hv
  obtain ⟨i, rfl⟩ := hv
  rfl
theorem Tryz.infoM : (Tryz.prog.info? 105).map (fun i => (i.zero, i.size)) = some (some (.agg (Array.replicate 256 (.bool false))), 256) := by kernel_rfl

set_option maxHeartbeats 1600000 in
theorem rdfit_any (t : Stp) (M : Nat → Bool) (w : World) (ht : Small t) : Calls Tryz.prog 117 #[stV t, .agg (mcells M)] w fun e w' => e = .returned (.bool (rdFit M t)) ∧ Mod (fun _ => False) w w' := by
  obtain ⟨op, x, y, z⟩ := t
  obtain ⟨h1, h2, h3, h4⟩ := ht
  simp only at h1 h2 h3 h4
  have cx := mcells_get M h2
  have cy := mcells_get M h3
  have cz := mcells_get M h4
  have hsz := mcells_size M
  have ix : (x : Int) < 256 := by omega
  have iy : (y : Int) < 256 := by omega
  have iz : (z : Int) < 256 := by omega
  have HZ : Hid (rdFit M ⟨op, x, y, z⟩ = ((decide (op ≤ 5) || M x) && (!(ry op) || M y) && (!(rz op) || M z))) := rfl
  generalize mcells M = C at *
  generalize rdFit M ⟨op, x, y, z⟩ = R at *
  generalize M x = bx at *
  generalize M y = vy at *
  generalize M z = bz at *
  have hsx := fun w => setsx_any op w h1
  have hry := fun w => readsy_any op w h1
  have hrz := fun w => readsz_any op w h1
  generalize decide (op ≤ 5) = b5 at *
  generalize ry op = py at *
  generalize rz op = pz at *
  cases b5 <;> cases bx <;> cases py <;> cases vy <;> cases pz <;> cases bz
  all_goals
    simp only [Bool.or_true, Bool.or_false, Bool.and_true, Bool.and_false, Bool.not_true, Bool.not_false] at HZ
    go_enter Tryz.func117, Tryz.ntmps117
    go_wp2_with first
      | (go_at_call 73; refine (hsx _).mono ?_; rintro e w1 ⟨rfl, rfl⟩)
      | (go_at_call 168; refine (hry _).mono ?_; rintro e w1 ⟨rfl, rfl⟩)
      | (go_at_call 169; refine (hrz _).mono ?_; rintro e w1 ⟨rfl, rfl⟩)
    go_ret
    exact ⟨by rw [HZ.out]; rfl, ((Mod.refl _ _).alloc _).alloc _⟩
end Go.Proofs.YtmnfndpbblpjiaaGreatDoor
