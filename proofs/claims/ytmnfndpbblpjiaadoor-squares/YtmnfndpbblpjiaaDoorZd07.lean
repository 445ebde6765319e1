/- The document's numbers: Of a small one, and how long one is. -/
import Derived.Test.YtmnfndpbblpjiaaDoorZd06
import Derived.Test.YtmnfndpbblpjiaaDoorZd01
import Derived.Test.YtmnfndpbblpjiaaDoorZd02
namespace Go.Proofs.YtmnfndpbblpjiaaDoor
open Go.RowKit Pu

theorem Pu.pow4 (m : Nat) : 10000 ^ m = 10 ^ (4 * m) := by rw [show (10000 : Nat) = 10 ^ 4 from rfl, ← Nat.pow_mul]
/-- How many decimal digits: the top one's, and four for each below. -/
theorem Pu.long_iff {l b : List Nat} {t j n : Nat} (hl : l = b ++ [t]) (hd : Dig l) (hj : j = 0 ∨ 10 ^ (j - 1) ≤ t) (hj2 : t < 10 ^ j) (ht : t ≠ 0) : n < 4 * b.length + j ↔ 10 ^ n ≤ val l := by
  subst hl
  have hb : Dig b := fun d h => hd d (List.mem_append_left _ h)
  have h1 := val_lt hb
  rw [val_append]
  simp only [val, Nat.mul_zero, Nat.add_zero]
  rw [pow4] at *
  have hj0 : j ≠ 0 := by intro e; subst e; simp at hj2; omega
  have hlow : 10 ^ (j - 1) ≤ t := by rcases hj with h | h; (· omega); exact h
  constructor
  · intro hn
    have a1 : 10 ^ (4 * b.length) * 10 ^ (j - 1) ≤ 10 ^ (4 * b.length) * t := Nat.mul_le_mul_left _ hlow
    rw [← Nat.pow_add] at a1
    have a2 : 10 ^ n ≤ 10 ^ (4 * b.length + (j - 1)) := Nat.pow_le_pow_right (by omega) (by omega)
    omega
  · intro hv
    by_cases hn : n < 4 * b.length + j
    · exact hn
    · exfalso
      have a1 : 10 ^ (4 * b.length) * (t + 1) ≤ 10 ^ (4 * b.length) * 10 ^ j := Nat.mul_le_mul_left _ hj2
      rw [← Nat.pow_add, Nat.mul_add] at a1
      have a2 : 10 ^ (4 * b.length + j) ≤ 10 ^ n := Nat.pow_le_pow_right (by omega) (by omega)
      omega

end Go.Proofs.YtmnfndpbblpjiaaDoor

/- Numerals and texts of inputs: plain functions. -/
namespace Go.Proofs.YtmnfndpbblpjiaaDoor.Pu

def decN (n : Nat) : List UInt8 := if 9 < n then [UInt8.ofNat (48 + n / 10), UInt8.ofNat (48 + n % 10)] else [UInt8.ofNat (48 + n % 10)]
/-- The digits of a number from -99 to 99. -/
def dec (n : Int) : ByteArray := ⟨((if n < 0 then [45] else []) ++ decN n.natAbs).toArray⟩
theorem dec_nat (n : Nat) : dec (n : Int) = ⟨(decN n).toArray⟩ := by
  unfold dec; rw [if_neg (by omega)]; simp
theorem dec_neg (n : Nat) (h : 0 < n) : dec (-(n : Int)) = ⟨(45 :: decN n).toArray⟩ := by
  unfold dec; rw [if_pos (by omega)]; simp
theorem dec_size (n : Int) : (dec n).size ≤ 3 := by
  show (((if n < 0 then [45] else []) ++ decN n.natAbs).toArray).size ≤ 3
  unfold decN
  split <;> split <;> simp
/-- The number of a text. -/
def numer (t : ByteArray) : Option Int := ((List.range 199).find? fun (i : Nat) => decide (t = dec ((i : Int) - 99))).map fun (i : Nat) => (i : Int) - 99
theorem numer_some {t : ByteArray} {j : Nat} (hj : j < 199) (h : t = dec ((j : Int) - 99)) (hb : ∀ i : Nat, i < j → t ≠ dec ((i : Int) - 99)) : numer t = some ((j : Int) - 99) := by
  have : (List.range 199).find? (fun (i : Nat) => decide (t = dec ((i : Int) - 99))) = some j := by
    rw [List.find?_range_eq_some]
    exact ⟨by simp [← h], by simpa using hj, fun i hi => by simpa using hb i hi⟩
  simp [numer, this]
theorem numer_none {t : ByteArray} (hb : ∀ i : Nat, i < 199 → t ≠ dec ((i : Int) - 99)) : numer t = none := by
  have : (List.range 199).find? (fun (i : Nat) => decide (t = dec ((i : Int) - 99))) = none := by
    rw [List.find?_eq_none]
    intro i hi
    simpa using hb i (by simpa using hi)
  simp [numer, this]
theorem numer_range {t : ByteArray} {n : Int} (h : numer t = some n) : -99 ≤ n ∧ n ≤ 99 := by
  unfold numer at h
  obtain ⟨i, hi, rfl⟩ := Option.map_eq_some_iff.1 h
  have := List.mem_of_find?_eq_some hi
  simp at this
  omega
/-- What the look at a text of inputs has come to ahead of place i: where the next numeral begins, and the numbers. -/
def inpSt (s : ByteArray) : Nat → Option (Nat × List Int)
  | 0 => some (0, [])
  | i + 1 => match inpSt s i with
    | none => none
    | some (f, l) => if i = s.size ∨ g s i = 44 then (match numer (s.extract f i) with
        | some n => some (i + 1, l ++ [n])
        | none => none) else some (f, l)
def inps (s : ByteArray) : Option (List Int) := if s.size = 0 then some [] else (inpSt s (s.size + 1)).map fun p => p.2
theorem inpSt_none {s : ByteArray} {i : Nat} (h : inpSt s i = none) : ∀ k, i ≤ k → inpSt s k = none := by
  intro k hk
  induction k with
  | zero =>
    have : i = 0 := by omega
    subst this; exact h
  | succ k ih =>
    by_cases e : i = k + 1
    · subst e; exact h
    · simp [inpSt, ih (by omega)]
theorem inpSt_num {s : ByteArray} {i f : Nat} {l : List Int} {n : Int} (h : inpSt s i = some (f, l)) (hc : i = s.size ∨ g s i = 44) (hn : numer (s.extract f i) = some n) : inpSt s (i + 1) = some (i + 1, l ++ [n]) := by
  simp only [inpSt, h]
  rw [if_pos hc, hn]
theorem inpSt_bad {s : ByteArray} {i f : Nat} {l : List Int} (h : inpSt s i = some (f, l)) (hc : i = s.size ∨ g s i = 44) (hn : numer (s.extract f i) = none) : inpSt s (i + 1) = none := by
  simp only [inpSt, h]
  rw [if_pos hc, hn]
theorem inpSt_on {s : ByteArray} {i f : Nat} {l : List Int} (h : inpSt s i = some (f, l)) (hc : ¬ (i = s.size ∨ g s i = 44)) : inpSt s (i + 1) = some (f, l) := by
  simp only [inpSt, h]
  rw [if_neg hc]
theorem inps_bad {s : ByteArray} {i f : Nat} {l : List Int} (h0 : s.size ≠ 0) (hi : i ≤ s.size) (h : inpSt s i = some (f, l)) (hc : i = s.size ∨ g s i = 44) (hn : numer (s.extract f i) = none) : inps s = none := by
  simp [inps, h0, inpSt_none (inpSt_bad h hc hn) (s.size + 1) (by omega)]
theorem inps_good {s : ByteArray} {f : Nat} {l : List Int} (h0 : s.size ≠ 0) (h : inpSt s (s.size + 1) = some (f, l)) : inps s = some l := by simp [inps, h0, h]
end Go.Proofs.YtmnfndpbblpjiaaDoor.Pu

/- Codes: plain functions: execution. B is the bound of a number's size. -/
namespace Go.Proofs.YtmnfndpbblpjiaaDoor.Pu

def sgn (x : Int) : Int := if x < 0 then -1 else if x = 0 then 0 else 1
def reg (regs : List Int) (r : Nat) : Int := regs[r]?.getD 0
/-- To which a step sets its register. -/
def valOf (t : Stp) (regs ins : List Int) : Int :=
  if t.op = 0 then ins[t.y]?.getD 0
  else if t.op = 1 then (t.y : Int)
  else if t.op = 2 then reg regs t.y + reg regs t.z
  else if t.op = 3 then reg regs t.y - reg regs t.z
  else if t.op = 4 then reg regs t.y * reg regs t.z
  else sgn (reg regs t.y)
def spc (y : Nat) : UInt8 := if y = 0 then 115 else if y = 1 then 112 else 99
/-- The report of right steps, and the error. -/
def play (B : Nat) (ins : List Int) : List Stp → List Int → ByteArray → ByteArray × Nat
  | [], _, s => (s, 0)
  | t :: l, regs, s =>
    if t.op < 6 then (if B ≤ (valOf t regs ins).natAbs then (⟨#[]⟩, 10) else play B ins l (regs.set t.x (valOf t regs ins)) s)
    else if t.op = 6 then play B ins l regs (s ++ ⟨#[if 0 < reg regs t.x then 49 else 48]⟩)
    else if reg regs t.x = 0 then (s ++ ⟨#[spc t.y]⟩ ++ dec (t.z : Int), 0)
    else play B ins l regs s
theorem play_big {B : Nat} {ins : List Int} {t : Stp} {l : List Stp} {regs : List Int} {s : ByteArray} (h : t.op < 6) (hb : B ≤ (valOf t regs ins).natAbs) : play B ins (t :: l) regs s = (⟨#[]⟩, 10) := by simp [play, h, hb]
theorem play_set {B : Nat} {ins : List Int} {t : Stp} {l : List Stp} {regs : List Int} {s : ByteArray} (h : t.op < 6) (hb : ¬ B ≤ (valOf t regs ins).natAbs) : play B ins (t :: l) regs s = play B ins l (regs.set t.x (valOf t regs ins)) s := by simp [play, h, hb]
theorem play_out {B : Nat} {ins : List Int} {t : Stp} {l : List Stp} {regs : List Int} {s : ByteArray} (h : t.op = 6) : play B ins (t :: l) regs s = play B ins l regs (s ++ ⟨#[if 0 < reg regs t.x then 49 else 48]⟩) := by simp [play, h]
theorem play_end {B : Nat} {ins : List Int} {t : Stp} {l : List Stp} {regs : List Int} {s : ByteArray} (h : 6 < t.op) (h0 : reg regs t.x = 0) : play B ins (t :: l) regs s = (s ++ ⟨#[spc t.y]⟩ ++ dec (t.z : Int), 0) := by
  rw [play, if_neg (by omega), if_neg (by omega), if_pos h0]
theorem play_on {B : Nat} {ins : List Int} {t : Stp} {l : List Stp} {regs : List Int} {s : ByteArray} (h : 6 < t.op) (h0 : reg regs t.x ≠ 0) : play B ins (t :: l) regs s = play B ins l regs s := by
  rw [play, if_neg (by omega), if_neg (by omega), if_neg h0]
/-- What Exec answers of texts that are not too long. -/
def exe (B : Nat) (s inp : ByteArray) : ByteArray × Nat :=
  if (vfy s).1 ≠ 0 then (⟨#[]⟩, (vfy s).1)
  else match inps inp with
    | none => (⟨#[]⟩, 9)
    | some ins => if ins.length ≠ g s 3 then (⟨#[]⟩, 9) else play B ins (steps s) (List.replicate 128 0) ⟨#[]⟩
end Go.Proofs.YtmnfndpbblpjiaaDoor.Pu

/- The document's value: the sums, differences and products of registers. -/
namespace Go.Proofs.YtmnfndpbblpjiaaDoor
open Go.RowKit Pu

end Go.Proofs.YtmnfndpbblpjiaaDoor
