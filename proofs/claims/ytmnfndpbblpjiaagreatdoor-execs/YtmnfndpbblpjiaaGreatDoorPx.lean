/- Numerals and texts of inputs: plain functions. -/
import Derived.Test.YtmnfndpbblpjiaaGreatDoorPure
namespace Go.Proofs.YtmnfndpbblpjiaaGreatDoor.Pu

def decN (n : Nat) : List UInt8 := if 9 < n then [UInt8.ofNat (48 + n / 10), UInt8.ofNat (48 + n % 10)] else [UInt8.ofNat (48 + n % 10)]
/-- The digits of a number from -99 to 99. -/
def dec (n : Int) : ByteArray := ⟨((if n < 0 then [45] else []) ++ decN n.natAbs).toArray⟩
theorem dec_nat (n : Nat) : dec (n : Int) = ⟨(decN n).toArray⟩ := by
  unfold dec; rw [if_neg (by omega)]; simp
theorem dec_neg (n : Nat) (h : 0 < n) : dec (-(n : Int)) = ⟨(45 :: decN n).toArray⟩ := by
  unfold dec; rw [if_pos (by omega)]; simp
theorem dec_size (n : Int) : (dec n).size ≤ 3 := by
  show (((if n < 0 then [45] else []) ++ decN n.natAbs).toArray).size ≤ 3
  unfold decN
  split <;> split <;> simp
/-- The number of a text. -/
def numer (t : ByteArray) : Option Int := ((List.range 199).find? fun (i : Nat) => decide (t = dec ((i : Int) - 99))).map fun (i : Nat) => (i : Int) - 99
theorem numer_some {t : ByteArray} {j : Nat} (hj : j < 199) (h : t = dec ((j : Int) - 99)) (hb : ∀ i : Nat, i < j → t ≠ dec ((i : Int) - 99)) : numer t = some ((j : Int) - 99) := by
  have : (List.range 199).find? (fun (i : Nat) => decide (t = dec ((i : Int) - 99))) = some j := by
    rw [List.find?_range_eq_some]
    exact ⟨by simp [← h], by simpa using hj, fun i hi => by simpa using hb i hi⟩
  simp [numer, this]
theorem numer_none {t : ByteArray} (hb : ∀ i : Nat, i < 199 → t ≠ dec ((i : Int) - 99)) : numer t = none := by
  have : (List.range 199).find? (fun (i : Nat) => decide (t = dec ((i : Int) - 99))) = none := by
    rw [List.find?_eq_none]
    intro i hi
    simpa using hb i (by simpa using hi)
  simp [numer, this]
theorem numer_range {t : ByteArray} {n : Int} (h : numer t = some n) : -99 ≤ n ∧ n ≤ 99 := by
  unfold numer at h
  obtain ⟨i, hi, rfl⟩ := Option.map_eq_some_iff.1 h
  have := List.mem_of_find?_eq_some hi
  simp at this
  omega
/-- What the look at a text of inputs has come to ahead of place i: where the next numeral begins, and the numbers. -/
def inpSt (s : ByteArray) : Nat → Option (Nat × List Int)
  | 0 => some (0, [])
  | i + 1 => match inpSt s i with
    | none => none
    | some (f, l) => if i = s.size ∨ g s i = 44 then (match numer (s.extract f i) with
        | some n => some (i + 1, l ++ [n])
        | none => none) else some (f, l)
def inps (s : ByteArray) : Option (List Int) := if s.size = 0 then some [] else (inpSt s (s.size + 1)).map fun p => p.2
theorem inpSt_none {s : ByteArray} {i : Nat} (h : inpSt s i = none) : ∀ k, i ≤ k → inpSt s k = none := by
  intro k hk
  induction k with
  | zero => have : i = 0 := by omega
            subst this; exact h
  | succ k ih =>
    by_cases e : i = k + 1
    · subst e; exact h
    · simp [inpSt, ih (by omega)]
theorem inpSt_num {s : ByteArray} {i f : Nat} {l : List Int} {n : Int} (h : inpSt s i = some (f, l)) (hc : i = s.size ∨ g s i = 44) (hn : numer (s.extract f i) = some n) : inpSt s (i + 1) = some (i + 1, l ++ [n]) := by
  simp only [inpSt, h]
  rw [if_pos hc, hn]
theorem inpSt_bad {s : ByteArray} {i f : Nat} {l : List Int} (h : inpSt s i = some (f, l)) (hc : i = s.size ∨ g s i = 44) (hn : numer (s.extract f i) = none) : inpSt s (i + 1) = none := by
  simp only [inpSt, h]
  rw [if_pos hc, hn]
theorem inpSt_on {s : ByteArray} {i f : Nat} {l : List Int} (h : inpSt s i = some (f, l)) (hc : ¬ (i = s.size ∨ g s i = 44)) : inpSt s (i + 1) = some (f, l) := by
  simp only [inpSt, h]
  rw [if_neg hc]
theorem inps_bad {s : ByteArray} {i f : Nat} {l : List Int} (h0 : s.size ≠ 0) (hi : i ≤ s.size) (h : inpSt s i = some (f, l)) (hc : i = s.size ∨ g s i = 44) (hn : numer (s.extract f i) = none) : inps s = none := by
  simp [inps, h0, inpSt_none (inpSt_bad h hc hn) (s.size + 1) (by omega)]
theorem inps_good {s : ByteArray} {f : Nat} {l : List Int} (h0 : s.size ≠ 0) (h : inpSt s (s.size + 1) = some (f, l)) : inps s = some l := by simp [inps, h0, h]
end Go.Proofs.YtmnfndpbblpjiaaGreatDoor.Pu
