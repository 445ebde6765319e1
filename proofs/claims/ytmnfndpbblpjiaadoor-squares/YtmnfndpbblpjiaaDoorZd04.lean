/- The document's look at a step: proper, right. -/
import Derived.Test.YtmnfndpbblpjiaaDoorZd03
import Derived.Test.YtmnfndpbblpjiaaDoorZd01
namespace Go.Proofs.YtmnfndpbblpjiaaDoor
open Go.RowKit Pu

theorem ivs_cell {w : World} {base n : Nat} {ao : Option Addr} {cap : Nat} {l : List Nat} (h : w.ownsRow base 3 1 (.slice ao n cap) n (ivs l)) (hn : n = l.length) {k : Nat} (hk : k < l.length) :
    ∃ gb, ao = some ⟨gb, 0, none⟩ ∧ w.cell? ⟨gb, k, none⟩ = some (.int .i64 (l[k] : Int)) := by
  subst hn
  obtain ⟨gb, rfl, hc⟩ := owns_cell h (j := k) (by omega)
  exact ⟨gb, rfl, by rw [hc]; simp [ivs, hk]⟩
theorem reads_small {t : Stp} (h : Small t) : ∀ r ∈ readsOf t, r < 256 := by
  obtain ⟨h0, h1, h2, h3⟩ := h
  intro r hr
  unfold readsOf at hr
  simp only [List.mem_append] at hr
  rcases hr with (hr | hr) | hr <;> split at hr <;> simp at hr <;> omega

end Go.Proofs.YtmnfndpbblpjiaaDoor

/- Whole numbers by digits to the base of 10000: plain functions. -/
namespace Go.Proofs.YtmnfndpbblpjiaaDoor.Pu

def val : List Nat → Nat
  | [] => 0
  | d :: l => d + 10000 * val l
def valI : List Int → Int
  | [] => 0
  | d :: l => d + 10000 * valI l
def Dig (l : List Nat) : Prop := ∀ d ∈ l, d < 10000
/-- No nought at the top. -/
def Top (l : List Nat) : Prop := ∀ d, l.getLast? = some d → d ≠ 0

theorem val_append (a b : List Nat) : val (a ++ b) = val a + 10000 ^ a.length * val b := by
  induction a with
  | nil => simp [val]
  | cons d a ih =>
    simp only [List.cons_append, val, List.length_cons, Nat.pow_succ, ih]
    rw [Nat.mul_add, Nat.mul_comm (10000 ^ a.length) 10000, Nat.mul_assoc]; omega
theorem valI_append (a b : List Int) : valI (a ++ b) = valI a + (10000 : Int) ^ a.length * valI b := by
  induction a with
  | nil => simp [valI]
  | cons d a ih =>
    simp only [List.cons_append, valI, List.length_cons, Int.pow_succ, ih]
    rw [Int.mul_add, Int.mul_comm ((10000 : Int) ^ a.length) 10000, Int.mul_assoc]; omega
theorem val_lt {a : List Nat} (h : Dig a) : val a < 10000 ^ a.length := by
  induction a with
  | nil => simp [val]
  | cons d a ih =>
    have h1 := ih (fun x hx => h x (List.mem_cons_of_mem _ hx))
    have h2 := h d List.mem_cons_self
    simp only [val, List.length_cons, Nat.pow_succ]
    omega
theorem val_top {a : List Nat} (ht : Top a) (hn : a ≠ []) : 10000 ^ (a.length - 1) ≤ val a := by
  obtain ⟨b, d, rfl⟩ : ∃ b d, a = b ++ [d] := ⟨a.dropLast, a.getLast hn, (List.dropLast_concat_getLast hn).symm⟩
  have hd : d ≠ 0 := ht d (by simp)
  rw [val_append]
  simp only [List.length_append, List.length_cons, List.length_nil, Nat.zero_add, Nat.add_sub_cancel, val, Nat.mul_zero, Nat.add_zero]
  have : 10000 ^ b.length * 1 ≤ 10000 ^ b.length * d := Nat.mul_le_mul_left _ (by omega)
  omega
theorem val_shorter {a b : List Nat} (ha : Dig a) (hb : Top b) (h : a.length < b.length) : val a < val b := by
  have h1 := val_lt ha
  have h2 := val_top hb (by intro e; subst e; simp at h)
  have h3 : 10000 ^ a.length ≤ 10000 ^ (b.length - 1) := Nat.pow_le_pow_right (by omega) (by omega)
  omega
theorem val_less {a b t : List Nat} {x y : Nat} (ha : Dig a) (hl : a.length = b.length) (hxy : x < y) : val (a ++ x :: t) < val (b ++ y :: t) := by
  rw [val_append, val_append, ← hl]
  have h1 := val_lt ha
  simp only [val]
  have h2 : 10000 ^ a.length * (x + 10000 * val t + 1) ≤ 10000 ^ a.length * (y + 10000 * val t) := Nat.mul_le_mul_left _ (by omega)
  rw [Nat.mul_add] at h2
  omega
theorem val_zero_top {l : List Nat} : val (l ++ [0]) = val l := by rw [val_append]; simp [val]
theorem val_nil {l : List Nat} (ht : Top l) (h : val l = 0) : l = [] := by
  by_cases hn : l = []
  · exact hn
  · have := val_top ht hn
    have : 0 < 10000 ^ (l.length - 1) := Nat.pow_pos (by omega)
    omega

/-- A number: its sign and its digits. -/
def num (neg : Bool) (l : List Nat) : Int := if neg then -(val l : Int) else (val l : Int)
def Canon (neg : Bool) (l : List Nat) : Prop := Dig l ∧ Top l ∧ (l = [] → neg = false)

theorem num_neg (neg : Bool) (l : List Nat) : num (!neg) l = -num neg l := by cases neg <;> simp [num]
theorem Canon.sign {neg : Bool} {l : List Nat} (h : Canon neg l) : (num neg l = 0 ↔ l = []) ∧ (num neg l < 0 ↔ neg = true) := by
  constructor
  · constructor
    · intro h0
      refine val_nil h.2.1 ?_
      unfold num at h0; cases neg <;> simp at h0 <;> omega
    · intro h0; subst h0; cases neg <;> simp [num, val]
  · constructor
    · intro h0; unfold num at h0; cases neg
      · simp at h0; omega
      · rfl
    · intro h0; subst h0
      have hn : l ≠ [] := fun e => by have := h.2.2 e; cases this
      have h1 := val_top h.2.1 hn
      have h2 : 0 < 10000 ^ (l.length - 1) := Nat.pow_pos (by omega)
      simp [num]; omega

theorem Dig.append {a b : List Nat} (ha : Dig a) (hb : Dig b) : Dig (a ++ b) := fun d hd => by
  rcases List.mem_append.1 hd with h | h
  · exact ha d h
  · exact hb d h
theorem valI_le {d : List Int} (h : ∀ x ∈ d, x ≤ 200000000000000000) : 9999 * valI d ≤ 200000000000000000 * ((10000 : Int) ^ d.length - 1) := by
  induction d with
  | nil => simp [valI]
  | cons x d ih =>
    have h1 := ih (fun y hy => h y (List.mem_cons_of_mem _ hy))
    have h2 := h x List.mem_cons_self
    simp only [valI, List.length_cons, Int.pow_succ]
    generalize (10000 : Int) ^ d.length = P at *
    omega

/-- How far the carrying has come. -/
def CInv (d : List Int) (k : Nat) (os : List Nat) (over : Int) : Prop :=
  os.length = k ∧ Dig os ∧ (val os : Int) + (10000 : Int) ^ k * (over + valI (d.drop k)) = valI d ∧ -100000000000000 ≤ over ∧ over ≤ 100000000000000
theorem CInv.start (d : List Int) : CInv d 0 [] 0 := ⟨rfl, fun _ h => by simp at h, by simp [val], by omega, by omega⟩
theorem valI_drop (d : List Int) (k : Nat) : valI (d.drop k) = d[k]?.getD 0 + 10000 * valI (d.drop (k + 1)) := by
  by_cases h : k < d.length
  · rw [List.drop_eq_getElem_cons h]; simp [valI, h]
  · rw [List.drop_of_length_le (by omega), List.drop_of_length_le (by omega)]; simp [valI, show d.length ≤ k by omega]
theorem CInv.step {d : List Int} {k : Nat} {os : List Nat} {over : Int} (h : CInv d k os over) (hd : ∀ x ∈ d, -200000000000000000 ≤ x ∧ x ≤ 200000000000000000) (n : Int) (hn : n = over + d[k]?.getD 0) :
    CInv d (k + 1) (os ++ [(n % 10000).toNat]) (n / 10000) := by
  obtain ⟨h1, h2, h3, h4, h5⟩ := h
  have hb : -200000000000000000 ≤ d[k]?.getD 0 ∧ d[k]?.getD 0 ≤ 200000000000000000 := by
    by_cases hk : k < d.length
    · simp [hk]; exact hd _ (List.getElem_mem hk)
    · simp [show d.length ≤ k by omega]
  have hm : ((n % 10000).toNat : Int) = n % 10000 := Int.toNat_of_nonneg (Int.emod_nonneg _ (by omega))
  refine ⟨by simp [h1], h2.append (fun x hx => by simp at hx; omega), ?_, by omega, by omega⟩
  have e : (val (os ++ [(n % 10000).toNat]) : Int) = (val os : Int) + (10000 : Int) ^ k * (n % 10000) := by
    rw [val_append, h1]
    simp only [val, Nat.mul_zero, Nat.add_zero]
    rw [Int.natCast_add, Int.natCast_mul, hm]
    congr 2
  rw [e, Int.pow_succ, Int.mul_assoc, Int.add_assoc, ← Int.mul_add]
  rw [← h3, valI_drop d k]
  congr 2
  have := Int.emod_add_mul_ediv n 10000
  omega
theorem CInv.finish {d : List Int} {k : Nat} {os : List Nat} {over : Int} (h : CInv d k os over) (hk : d.length ≤ k) (ho : over ≤ 0) (hd : 0 ≤ valI d) : (val os : Int) = valI d := by
  obtain ⟨h1, h2, h3, h4, h5⟩ := h
  rw [List.drop_of_length_le hk] at h3
  simp only [valI, Int.add_zero] at h3
  have hv := val_lt h2
  rw [h1] at hv
  have hp : (val os : Int) < (10000 : Int) ^ k := by
    have : ((10000 ^ k : Nat) : Int) = (10000 : Int) ^ k := by simp
    omega
  by_cases h0 : over = 0
  · rw [h0] at h3; simpa using h3
  · exfalso
    have : (10000 : Int) ^ k * over ≤ (10000 : Int) ^ k * (-1) := Int.mul_le_mul_of_nonneg_left (by omega) (by have : (0 : Int) < (10000 : Int) ^ k := Int.pow_pos (by omega); omega)
    omega
theorem CInv.bound {d : List Int} {k : Nat} {os : List Nat} {over : Int} (h : CInv d k os over) (hk : d.length ≤ k) (ho : 0 < over) (hd : ∀ x ∈ d, -200000000000000000 ≤ x ∧ x ≤ 200000000000000000) : k ≤ d.length + 3 := by
  obtain ⟨h1, h2, h3, h4, h5⟩ := h
  rw [List.drop_of_length_le hk] at h3
  simp only [valI, Int.add_zero] at h3
  have hl := valI_le (fun x hx => (hd x hx).2)
  have hp : (10000 : Int) ^ k * 1 ≤ (10000 : Int) ^ k * over := Int.mul_le_mul_of_nonneg_left (by omega) (by have : (0 : Int) < (10000 : Int) ^ k := Int.pow_pos (by omega); omega)
  by_cases hle : k ≤ d.length + 3
  · exact hle
  · exfalso
    have hm : (10000 : Int) ^ (d.length + 4) ≤ (10000 : Int) ^ k := by
      have : 10000 ^ (d.length + 4) ≤ 10000 ^ k := Nat.pow_le_pow_right (by omega) (by omega)
      have e1 : ((10000 ^ (d.length + 4) : Nat) : Int) = (10000 : Int) ^ (d.length + 4) := by simp
      have e2 : ((10000 ^ k : Nat) : Int) = (10000 : Int) ^ k := by simp
      omega
    have e4 : (10000 : Int) ^ (d.length + 4) = (10000 : Int) ^ d.length * 10000000000000000 := by rw [Int.pow_add]; rfl
    have hq : (0 : Int) < (10000 : Int) ^ d.length := Int.pow_pos (by omega)
    rw [e4] at hm
    generalize (10000 : Int) ^ d.length = P at *
    generalize (10000 : Int) ^ k = K at *
    generalize K * over = KO at *
    omega

end Go.Proofs.YtmnfndpbblpjiaaDoor.Pu

/- The document's numbers: Less, Sign, order, made. -/
namespace Go.Proofs.YtmnfndpbblpjiaaDoor
open Go.RowKit Pu

abbrev nm2 (nb : Bool) (v : Value) : Value := .agg #[.bool nb, v]
/-- A number in memory. -/
def Nm (w : World) (nb : Bool) (v : Value) (l : List Nat) : Prop := Canon nb l ∧ w.ownsRow 0 3 1 v l.length (ivs l)
theorem Nm.mod {w w' : World} {nb : Bool} {v : Value} {l : List Nat} (h : Nm w nb v l) (hm : Mod (fun _ => False) w w') : Nm w' nb v l := ⟨h.1, owns_mod h.2 hm (fun _ _ f => f)⟩
def lessB (nb : Bool) (l : List Nat) : Bool := !nb && decide (0 < l.length)
theorem less_canon {nb : Bool} {l : List Nat} (h : Canon nb l) : Canon (lessB nb l) l ∧ num (lessB nb l) l = -num nb l := by
  obtain ⟨h1, h2, h3⟩ := h
  cases l with
  | nil => have := h3 rfl; subst this; exact ⟨⟨h1, h2, fun _ => rfl⟩, by simp [lessB, num, val]⟩
  | cons d l => exact ⟨⟨h1, h2, fun e => by cases e⟩, by simp [lessB]; exact num_neg nb _⟩

def sgI (x : Int) : Int := if x < 0 then -1 else if x = 0 then 0 else 1
theorem val_cmp {a b : List Nat} (k : Nat) (ha : Dig a) (hl : a.length = b.length) (hk : k < a.length) (hlt : a[k] < b[k]'(by omega)) (he : a.drop (k + 1) = b.drop (k + 1)) : val a < val b := by
  have e1 : a = a.take k ++ a[k] :: a.drop (k + 1) := by rw [← List.drop_eq_getElem_cons hk, List.take_append_drop]
  have e2 : b = b.take k ++ b[k]'(by omega) :: b.drop (k + 1) := by rw [← List.drop_eq_getElem_cons (by omega), List.take_append_drop]
  rw [e1, e2, he]
  exact val_less (fun d hd => ha d (List.mem_of_mem_take hd)) (by simp; omega) hlt

end Go.Proofs.YtmnfndpbblpjiaaDoor
