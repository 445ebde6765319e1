/- The document's numbers: Plus at all numbers, Minus. -/
import Derived.BigRegion
import Derived.Test.YtmnfndpbblpjiaaDoorZd05
import Derived.Test.YtmnfndpbblpjiaaDoorZd04
namespace Go.Proofs.YtmnfndpbblpjiaaDoor
open Go.RowKit Pu

end Go.Proofs.YtmnfndpbblpjiaaDoor

/- Products by digits: plain functions. -/
namespace Go.Proofs.YtmnfndpbblpjiaaDoor.Pu

theorem valI_set {d : List Int} {k : Nat} (hk : k < d.length) (x : Int) : valI (d.set k x) = valI d + (10000 : Int) ^ k * (x - d[k]) := by
  induction d generalizing k with
  | nil => simp at hk
  | cons y d ih =>
    cases k with
    | zero => simp [valI]; omega
    | succ k =>
      have := ih (k := k) (by simpa using hk)
      simp only [List.set_cons_succ, valI, List.getElem_cons_succ, this, Int.pow_succ, Int.mul_add]
      rw [Int.mul_comm ((10000 : Int) ^ k) 10000, Int.mul_assoc]; omega
theorem valI_zero (n : Nat) : valI (List.replicate n 0) = 0 := by
  induction n with
  | zero => rfl
  | succ n ih => simp [List.replicate_succ, valI, ih]
theorem val_take {l : List Nat} {k : Nat} (h : k < l.length) : (val (l.take (k + 1)) : Int) = (val (l.take k) : Int) + (10000 : Int) ^ k * (l[k] : Int) := by
  rw [List.take_succ_eq_append_getElem h, val_append]
  have : (l.take k).length = k := by simp; omega
  rw [this]; simp [val]

/-- How far the multiplying has come: i rows, and j places of the next. -/
def MInv (a b : List Nat) (d : List Int) (i j : Nat) : Prop :=
  d.length = a.length + b.length ∧ valI d = (val (a.take i) : Int) * (val b : Int) + (10000 : Int) ^ i * ((a[i]?.getD 0 : Nat) : Int) * (val (b.take j) : Int) ∧
  (∀ k (hk : k < d.length), 0 ≤ d[k] ∧ d[k] ≤ 100000000 * ((i : Int) + 1)) ∧ (∀ k (hk : k < d.length), i + j ≤ k → d[k] ≤ 100000000 * (i : Int))
theorem MInv.start (a b : List Nat) : MInv a b (List.replicate (a.length + b.length) 0) 0 0 := by
  refine ⟨by simp, ?_, fun k hk => ?_, fun k hk _ => ?_⟩
  · rw [valI_zero]; simp [val]
  · simp
  · simp
theorem MInv.step {a b : List Nat} {d : List Int} {i j : Nat} (h : MInv a b d i j) (ha : Dig a) (hb : Dig b) (hi : i < a.length) (hj : j < b.length) (hk : i + j < d.length) :
    MInv a b (d.set (i + j) (d[i + j] + (a[i] : Int) * (b[j] : Int))) i (j + 1) := by
  obtain ⟨h1, h2, h3, h4⟩ := h
  have hda := ha _ (List.getElem_mem hi)
  have hdb := hb _ (List.getElem_mem hj)
  have hp0 : 0 ≤ (a[i] : Int) * (b[j] : Int) := Int.mul_nonneg (by omega) (by omega)
  have hp1 : (a[i] : Int) * (b[j] : Int) ≤ 9999 * 9999 := by
    have : a[i] * b[j] ≤ 9999 * 9999 := Nat.mul_le_mul (by omega) (by omega)
    have e : ((a[i] * b[j] : Nat) : Int) = (a[i] : Int) * (b[j] : Int) := by simp
    omega
  refine ⟨by simpa using h1, ?_, fun k hk' => ?_, fun k hk' hle => ?_⟩
  · rw [valI_set hk, h2, val_take hj]
    have e0 : ((a[i]?.getD 0 : Nat) : Int) = (a[i] : Int) := by simp [hi]
    rw [e0]
    have e1 : d[i + j] + (a[i] : Int) * (b[j] : Int) - d[i + j] = (a[i] : Int) * (b[j] : Int) := by omega
    rw [e1, Int.mul_add, Int.pow_add, Int.add_assoc]
    congr 2
    simp only [Int.mul_assoc, Int.mul_left_comm]
  · have hkd : k < d.length := by simpa using hk'
    rw [List.getElem_set]
    split
    · have := (h3 (i + j) hk).1
      have := h4 (i + j) hk (Nat.le_refl _)
      omega
    · exact h3 k hkd
  · have hkd : k < d.length := by simpa using hk'
    rw [List.getElem_set, if_neg (by omega)]
    exact h4 k hkd (by omega)
theorem MInv.row {a b : List Nat} {d : List Int} {i : Nat} (h : MInv a b d i b.length) (hi : i < a.length) : MInv a b d (i + 1) 0 := by
  obtain ⟨h1, h2, h3, h4⟩ := h
  refine ⟨h1, ?_, fun k hk => ?_, fun k hk hle => ?_⟩
  · rw [h2, val_take hi, List.take_length]
    have e0 : ((a[i]?.getD 0 : Nat) : Int) = (a[i] : Int) := by simp [hi]
    rw [e0]
    simp [val, Int.add_mul]
  · have := h3 k hk; omega
  · have := (h3 k hk).2; omega
theorem MInv.done {a b : List Nat} {d : List Int} {i : Nat} (h : MInv a b d i 0) (hi : a.length ≤ i) : valI d = (val a : Int) * (val b : Int) := by
  rw [h.2.1, List.take_of_length_le hi]
  simp [val]
theorem MInv.bound {a b : List Nat} {d : List Int} {i j : Nat} (h : MInv a b d i j) (hi : i ≤ 1000000001) : ∀ x ∈ d, -200000000000000000 ≤ x ∧ x ≤ 200000000000000000 := by
  intro x hx
  obtain ⟨k, hk, rfl⟩ := List.getElem_of_mem hx
  have := h.2.2.1 k hk
  omega
theorem num_mul (nx ny : Bool) (a b os : List Nat) (h : (val os : Int) = (val a : Int) * (val b : Int)) : num (nx != ny) os = num nx a * num ny b := by
  cases nx <;> cases ny <;> simp [num, h, Int.neg_mul, Int.mul_neg]
end Go.Proofs.YtmnfndpbblpjiaaDoor.Pu

/- The document's numbers: Times. -/
namespace Go.Proofs.YtmnfndpbblpjiaaDoor
open Go.RowKit Pu

theorem zvs_set (d : List Int) (k : Nat) (x : Int) : (zvs d).set k (.int .i64 x) = zvs (d.set k x) := by simp [zvs, List.map_set]
theorem made_zero (n : Nat) : (madeCells #[Value.int .i64 0] (n * 1)).toList = zvs (List.replicate n 0) := by rw [toList_madeCells_one]; simp [zvs]

end Go.Proofs.YtmnfndpbblpjiaaDoor
