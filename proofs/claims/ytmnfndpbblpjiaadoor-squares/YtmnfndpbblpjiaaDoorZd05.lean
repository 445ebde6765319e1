/- The document's numbers: made, carried. -/
import Derived.Deep.RegionHeld3
import Derived.Test.YtmnfndpbblpjiaaDoorZd04
namespace Go.Proofs.YtmnfndpbblpjiaaDoor
open Go.RowKit Pu

theorem owns_prefix {w : World} {base : Nat} {e : TypeId} {ao : Option Addr} {n cap : Nat} {l : List Nat} (h : w.ownsRow base e 1 (.slice ao n cap) n (ivs l)) (hn : n = l.length) (m : Nat) (hm : m ≤ n) (hs : 0 < n) : w.ownsRow base e 1 (.slice ao m cap) m (ivs (l.take m)) := by
  obtain ⟨hl, ⟨he, h0⟩ | ⟨g, c, cur, he, hb, hg, h1, h2, h3, h4⟩⟩ := h
  · omega
  · injection he with e1 e2 e3
    subst e1 e3
    refine ⟨by simp [ivs]; omega, .inr ⟨g, cap, cur, rfl, hb, hg, by omega, h2, h3, ?_⟩⟩
    have := congrArg (List.take m) h4
    rw [List.take_take] at this
    rw [show min m (n * 1) = m * 1 by omega] at this
    rw [this]
    simp [ivs]

theorem owns_cap {w : World} {base : Nat} {e : TypeId} {size : Nat} {ao : Option Addr} {n cap : Nat} {xs : List Value} (h : w.ownsRow base e size (.slice ao n cap) n xs) : n ≤ cap ∧ cap ≤ maxLen := by
  obtain ⟨hl, ⟨he, h0⟩ | ⟨g, c, cur, he, hb, hg, h1, h2, h3, h4⟩⟩ := h
  · injection he with e1 e2 e3
    subst e3; unfold maxLen; omega
  · injection he with e1 e2 e3
    subst e3; exact ⟨h1, h2⟩
theorem owns_zero {w : World} {base : Nat} {e : TypeId} {ao : Option Addr} {n cap : Nat} {l : List Nat} (h : w.ownsRow base e 1 (.slice ao n cap) n (ivs l)) : w.ownsRow base e 1 (.slice ao 0 cap) 0 [] := by
  obtain ⟨hl, ⟨he, h0⟩ | ⟨g, c, cur, he, hb, hg, h1, h2, h3, h4⟩⟩ := h
  · injection he with e1 e2 e3
    subst e1 e3
    exact World.ownsRow_nil _ _ _ _
  · injection he with e1 e2 e3
    subst e1 e3
    exact ⟨rfl, .inr ⟨g, cap, cur, rfl, hb, hg, by omega, h2, h3, by simp⟩⟩

section
variable {w : World} {b : Nat} {nb : Bool} {v : Value}
theorem mod_set2 (b : Nat) (w : World) (x : Bool) (u : Value) : Mod (fun i => i = b) w ((w.setCell ⟨b, 0, none⟩ (.bool x)).setCell ⟨b, 1, none⟩ u) := ((Mod.refl (fun i => i = b) w).setCell _ _ (fun _ => rfl)).setCell _ _ (fun _ => rfl)
end

/-- A call has answered a number of this value. -/
def NumEnd (w : World) (x : Int) (n : Nat) (e : Ending) (w' : World) : Prop := Mod (fun _ => False) w w' ∧ ∃ nb v' l, e = .returned (nm2 nb v') ∧ Nm w' nb v' l ∧ num nb l = x ∧ l.length ≤ n
theorem numEnd {w w' : World} {x : Int} {n : Nat} {nb : Bool} {v : Value} {l : List Nat} (hm : Mod (fun _ => False) w w') (hN : Nm w' nb v l) (hx : num nb l = x) (hl : l.length ≤ n) : NumEnd w x n (.returned (nm2 nb v)) w' := ⟨hm, nb, v, l, rfl, hN, hx, hl⟩
theorem made_num {neg : Bool} {ds : List Nat} {m : Nat} (h : val (ds.take m) = val ds) : num neg (ds.take m) = num neg ds := by unfold num; rw [h]

/-- Digits that may be anything, in memory. -/
def zvs (l : List Int) : List Value := l.map fun (n : Int) => Value.int .i64 n
theorem zvs_cell {w : World} {base n : Nat} {ao : Option Addr} {cap : Nat} {l : List Int} (h : w.ownsRow base 3 1 (.slice ao n cap) n (zvs l)) (hn : n = l.length) {k : Nat} (hk : k < l.length) :
    ∃ gb, ao = some ⟨gb, 0, none⟩ ∧ w.cell? ⟨gb, k, none⟩ = some (.int .i64 l[k]) := by
  subst hn
  obtain ⟨gb, rfl, hc⟩ := owns_cell h (j := k) (by omega)
  exact ⟨gb, rfl, by rw [hc]; simp [zvs, hk]⟩
theorem ivs_snoc (l : List Nat) (d : Nat) : ivs l ++ [.int .i64 (d : Int)] = ivs (l ++ [d]) := by simp [ivs]

def CarEnd (w : World) (d : List Int) (e : Ending) (w' : World) : Prop := Mod (fun _ => False) w w' ∧ ∃ v' os, e = .returned v' ∧ w'.ownsRow w.heap.size 3 1 v' os.length (ivs os) ∧ Dig os ∧ (val os : Int) = valI d ∧ os.length ≤ d.length + 4

end Go.Proofs.YtmnfndpbblpjiaaDoor

/- The document's numbers: Plus, Minus. -/
namespace Go.Proofs.YtmnfndpbblpjiaaDoor
open Go.RowKit Pu

def Pu.plusL (way : Int) : List Nat → List Nat → List Int
  | [], [] => []
  | a :: l, [] => (a : Int) :: plusL way l []
  | [], b :: m => (way * (b : Int)) :: plusL way [] m
  | a :: l, b :: m => ((a : Int) + way * (b : Int)) :: plusL way l m
theorem Pu.plusL_val (way : Int) : ∀ a b : List Nat, valI (plusL way a b) = (val a : Int) + way * (val b : Int)
  | [], [] => by simp [plusL, valI, val]
  | a :: l, [] => by
    have := plusL_val way l []
    simp only [plusL, valI, val, this]; simp
  | [], b :: m => by
    have := plusL_val way [] m
    simp only [plusL, valI, val, this]
    simp only [Int.natCast_add, Int.natCast_mul, Int.mul_add]
    have e : way * (10000 * (val m : Int)) = 10000 * (way * (val m : Int)) := by rw [← Int.mul_assoc, Int.mul_comm way 10000, Int.mul_assoc]
    simp [e]
  | a :: l, b :: m => by
    have := plusL_val way l m
    simp only [plusL, valI, val, this]
    simp only [Int.natCast_add, Int.natCast_mul, Int.mul_add]
    have e : way * (10000 * (val m : Int)) = 10000 * (way * (val m : Int)) := by rw [← Int.mul_assoc, Int.mul_comm way 10000, Int.mul_assoc]
    simp only [show ((10000 : Nat) : Int) = 10000 from rfl, e]
    omega
theorem Pu.plusL_len (way : Int) : ∀ a b : List Nat, (plusL way a b).length = max a.length b.length
  | [], [] => by simp [plusL]
  | a :: l, [] => by have := plusL_len way l []; simp only [plusL, List.length_cons, List.length_nil] at *; omega
  | [], b :: m => by have := plusL_len way [] m; simp only [plusL, List.length_cons, List.length_nil] at *; omega
  | a :: l, b :: m => by have := plusL_len way l m; simp only [plusL, List.length_cons] at *; omega
theorem Pu.plusL_at (way : Int) : ∀ (a b : List Nat) (k : Nat), k < max a.length b.length → (plusL way a b)[k]? = some ((a[k]?.getD 0 : Nat) + way * ((b[k]?.getD 0 : Nat) : Int))
  | [], [], k, h => by simp at h
  | a :: l, [], 0, _ => by simp [plusL]
  | a :: l, [], k + 1, h => by have := plusL_at way l [] k (by simp only [List.length_cons, List.length_nil] at *; omega); simpa [plusL] using this
  | [], b :: m, 0, _ => by simp [plusL]
  | [], b :: m, k + 1, h => by have := plusL_at way [] m k (by simp only [List.length_cons, List.length_nil] at *; omega); simpa [plusL] using this
  | a :: l, b :: m, 0, _ => by simp [plusL]
  | a :: l, b :: m, k + 1, h => by have := plusL_at way l m k (by simp only [List.length_cons] at *; omega); simpa [plusL] using this
theorem Pu.dig_getD {l : List Nat} (h : Dig l) (k : Nat) : l[k]?.getD 0 < 10000 := by
  by_cases hk : k < l.length
  · simp [hk]; exact h _ (List.getElem_mem hk)
  · simp [show l.length ≤ k by omega]
theorem Mod.cell {a b : World} {k i : Nat} {v : Value} (hm : Mod (fun _ => False) a b) (h : a.cell? ⟨k, i, none⟩ = some v) : b.cell? ⟨k, i, none⟩ = some v := by
  have hk : k < a.heap.size := by
    cases ho : a.heap[k]? with
    | none => simp [World.cell?, ho] at h
    | some o => exact lt_of_block ho
  exact (World.cell?_of_block (a := ⟨k, i, none⟩) (hm.block k hk (fun f => f))).trans h

/-- The last statement's answer: the digits carried, the sign laid to them. -/
theorem zvs_snoc (l : List Int) (d : Int) : zvs l ++ [.int .i64 d] = zvs (l ++ [d]) := by simp [zvs]

theorem row_next {w : World} {B k : Nat} {v : Value} {pl : List Int} {x dk : Int} (h : w.ownsRow B 3 1 v (k + 1) (zvs (pl.take k) ++ [.int .i64 x])) (hp : pl[k]? = some dk) (hx : x = dk) : w.ownsRow B 3 1 v (k + 1) (zvs (pl.take (k + 1))) := by
  rw [List.take_add_one, hp, ← hx]
  simpa [zvs] using h

theorem set2_cell (b : Nat) (w : World) (x u : Value) (k : Nat) (i : Nat) (h : k ≠ b) : ((w.setCell ⟨b, 0, none⟩ x).setCell ⟨b, 1, none⟩ u).cell? ⟨k, i, none⟩ = w.cell? ⟨k, i, none⟩ := by
  apply World.cell?_of_block
  rw [Below.heap_setCell _ _ _ _ h, Below.heap_setCell _ _ _ _ h]

end Go.Proofs.YtmnfndpbblpjiaaDoor
