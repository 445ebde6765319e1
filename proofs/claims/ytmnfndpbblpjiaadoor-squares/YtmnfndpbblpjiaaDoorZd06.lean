/- The document's numbers: Plus, Minus. -/
import Derived.Deep.RegionHeld3
import Derived.Test.YtmnfndpbblpjiaaDoorZd05
namespace Go.Proofs.YtmnfndpbblpjiaaDoor
open Go.RowKit Pu

def Pu.plusL (way : Int) : List Nat → List Nat → List Int
  | [], [] => []
  | a :: l, [] => (a : Int) :: plusL way l []
  | [], b :: m => (way * (b : Int)) :: plusL way [] m
  | a :: l, b :: m => ((a : Int) + way * (b : Int)) :: plusL way l m
theorem Pu.plusL_val (way : Int) : ∀ a b : List Nat, valI (plusL way a b) = (val a : Int) + way * (val b : Int)
  | [], [] => by simp [plusL, valI, val]
  | a :: l, [] => by
    have := plusL_val way l []
    simp only [plusL, valI, val, this]; simp
  | [], b :: m => by
    have := plusL_val way [] m
    simp only [plusL, valI, val, this]
    simp only [Int.natCast_add, Int.natCast_mul, Int.mul_add]
    have e : way * (10000 * (val m : Int)) = 10000 * (way * (val m : Int)) := by rw [← Int.mul_assoc, Int.mul_comm way 10000, Int.mul_assoc]
    simp [e]
  | a :: l, b :: m => by
    have := plusL_val way l m
    simp only [plusL, valI, val, this]
    simp only [Int.natCast_add, Int.natCast_mul, Int.mul_add]
    have e : way * (10000 * (val m : Int)) = 10000 * (way * (val m : Int)) := by rw [← Int.mul_assoc, Int.mul_comm way 10000, Int.mul_assoc]
    simp only [show ((10000 : Nat) : Int) = 10000 from rfl, e]
    omega
theorem Pu.plusL_len (way : Int) : ∀ a b : List Nat, (plusL way a b).length = max a.length b.length
  | [], [] => by simp [plusL]
  | a :: l, [] => by have := plusL_len way l []; simp only [plusL, List.length_cons, List.length_nil] at *; omega
  | [], b :: m => by have := plusL_len way [] m; simp only [plusL, List.length_cons, List.length_nil] at *; omega
  | a :: l, b :: m => by have := plusL_len way l m; simp only [plusL, List.length_cons] at *; omega
theorem Pu.plusL_at (way : Int) : ∀ (a b : List Nat) (k : Nat), k < max a.length b.length → (plusL way a b)[k]? = some ((a[k]?.getD 0 : Nat) + way * ((b[k]?.getD 0 : Nat) : Int))
  | [], [], k, h => by simp at h
  | a :: l, [], 0, _ => by simp [plusL]
  | a :: l, [], k + 1, h => by have := plusL_at way l [] k (by simp only [List.length_cons, List.length_nil] at *; omega); simpa [plusL] using this
  | [], b :: m, 0, _ => by simp [plusL]
  | [], b :: m, k + 1, h => by have := plusL_at way [] m k (by simp only [List.length_cons, List.length_nil] at *; omega); simpa [plusL] using this
  | a :: l, b :: m, 0, _ => by simp [plusL]
  | a :: l, b :: m, k + 1, h => by have := plusL_at way l m k (by simp only [List.length_cons] at *; omega); simpa [plusL] using this
theorem Pu.dig_getD {l : List Nat} (h : Dig l) (k : Nat) : l[k]?.getD 0 < 10000 := by
  by_cases hk : k < l.length
  · simp [hk]; exact h _ (List.getElem_mem hk)
  · simp [show l.length ≤ k by omega]
theorem Mod.cell {a b : World} {k i : Nat} {v : Value} (hm : Mod (fun _ => False) a b) (h : a.cell? ⟨k, i, none⟩ = some v) : b.cell? ⟨k, i, none⟩ = some v := by
  have hk : k < a.heap.size := by
    cases ho : a.heap[k]? with
    | none => simp [World.cell?, ho] at h
    | some o => exact lt_of_block ho
  exact (World.cell?_of_block (a := ⟨k, i, none⟩) (hm.block k hk (fun f => f))).trans h

/-- The last statement's answer: the digits carried, the sign laid to them. -/
theorem zvs_snoc (l : List Int) (d : Int) : zvs l ++ [.int .i64 d] = zvs (l ++ [d]) := by simp [zvs]

theorem row_next {w : World} {B k : Nat} {v : Value} {pl : List Int} {x dk : Int} (h : w.ownsRow B 3 1 v (k + 1) (zvs (pl.take k) ++ [.int .i64 x])) (hp : pl[k]? = some dk) (hx : x = dk) : w.ownsRow B 3 1 v (k + 1) (zvs (pl.take (k + 1))) := by
  rw [List.take_add_one, hp, ← hx]
  simpa [zvs] using h

theorem set2_cell (b : Nat) (w : World) (x u : Value) (k : Nat) (i : Nat) (h : k ≠ b) : ((w.setCell ⟨b, 0, none⟩ x).setCell ⟨b, 1, none⟩ u).cell? ⟨k, i, none⟩ = w.cell? ⟨k, i, none⟩ := by
  apply World.cell?_of_block
  rw [Below.heap_setCell _ _ _ _ h, Below.heap_setCell _ _ _ _ h]

end Go.Proofs.YtmnfndpbblpjiaaDoor
