/- Codes: what is wanted ahead of a step, against who set it. -/
import Derived.Test.YtmnfndpbblpjiaaGreatDoorZa01
namespace Go.Proofs.YtmnfndpbblpjiaaGreatDoor.Pu
def upd (r : Nat) (b : Bool) (W : Nat → Bool) : Nat → Bool := fun i => if i = r then b else W i
def wAhead (t : Stp) (W : Nat → Bool) : Nat → Bool :=
  if rz t.op then upd t.z true (if ry t.op then upd t.y true (upd t.x (!decide (t.op ≤ 5)) W) else upd t.x (!decide (t.op ≤ 5)) W)
  else (if ry t.op then upd t.y true (upd t.x (!decide (t.op ≤ 5)) W) else upd t.x (!decide (t.op ≤ 5)) W)
def pN (t : Stp) (W : Nat → Bool) : Bool := !decide (t.op ≤ 5) || W t.x
theorem wAhead_iff (t : Stp) (W : Nat → Bool) (r : Nat) : wAhead t W r = true ↔ r ∈ readsOf t ∨ (W r = true ∧ ¬ (t.op ≤ 5 ∧ r = t.x)) := by
  obtain ⟨op, x, y, z⟩ := t
  unfold wAhead upd readsOf ry rz
  have h : op = 0 ∨ op = 1 ∨ op = 2 ∨ op = 3 ∨ op = 4 ∨ op = 5 ∨ 5 < op := by omega
  rcases h with rfl | rfl | rfl | rfl | rfl | rfl | h
  · by_cases c : r = x <;> simp [c]
  · by_cases c : r = x <;> simp [c]
  · by_cases a : r = z <;> by_cases b : r = y <;> by_cases c : r = x <;> simp [a, b, c] <;> simp_all
  · by_cases a : r = z <;> by_cases b : r = y <;> by_cases c : r = x <;> simp [a, b, c] <;> simp_all
  · by_cases a : r = z <;> by_cases b : r = y <;> by_cases c : r = x <;> simp [a, b, c] <;> simp_all
  · by_cases b : r = y <;> by_cases c : r = x <;> simp [b, c] <;> simp_all
  · by_cases c : r = x <;> simp [c, show ¬ op = 2 by omega, show ¬ op = 3 by omega, show ¬ op = 4 by omega, show ¬ op = 5 by omega, show ¬ op ≤ 5 by omega, show ¬ op ≤ 4 by omega, show 6 ≤ op by omega]
theorem mark1_get (l : List Stp) (k : Nat) (nd : List Bool) (r j : Nat) : (mark1 l k nd r)[j]? = some true ↔ nd[j]? = some true ∨ (j < nd.length ∧ setterI l r k = (j : Int)) := by
  unfold mark1
  by_cases h : 0 ≤ setterI l r k
  · rw [if_pos h, List.getElem?_set]
    by_cases e : (setterI l r k).toNat = j
    · have : setterI l r k = (j : Int) := by omega
      rw [if_pos e]
      by_cases hl : j < nd.length
      · simp [hl, this]
      · simp [e, hl]
    · have : setterI l r k ≠ (j : Int) := by omega
      rw [if_neg e]
      simp [this]
  · rw [if_neg h]
    have : setterI l r k ≠ (j : Int) := by omega
    simp [this]
theorem marks_get (l : List Stp) (k : Nat) (rs : List Nat) (nd : List Bool) (j : Nat) : (marks l k rs nd)[j]? = some true ↔ nd[j]? = some true ∨ (j < nd.length ∧ ∃ r ∈ rs, setterI l r k = (j : Int)) := by
  induction rs generalizing nd with
  | nil => simp [marks]
  | cons r rs ih =>
    show (marks l k rs (mark1 l k nd r))[j]? = some true ↔ _
    rw [ih, mark1_get, mark1_len]
    constructor
    · rintro ((h | ⟨h1, h2⟩) | ⟨h1, r', h2, h3⟩)
      · exact .inl h
      · exact .inr ⟨h1, r, by simp, h2⟩
      · exact .inr ⟨h1, r', by simp [h2], h3⟩
    · rintro (h | ⟨h1, r', h2, h3⟩)
      · exact .inl (.inl h)
      · rcases List.mem_cons.1 h2 with rfl | h2
        · exact .inl (.inr ⟨h1, h3⟩)
        · exact .inr ⟨h1, r', h2, h3⟩
theorem mark1_keep (l : List Stp) (k : Nat) (nd : List Bool) (r j : Nat) (hj : k ≤ j) : (mark1 l k nd r)[j]? = nd[j]? := by
  unfold mark1
  have := setterI_lt l r k
  split
  · rw [List.getElem?_set, if_neg (by omega)]
  · rfl
theorem marks_keep (l : List Stp) (k : Nat) (rs : List Nat) (nd : List Bool) (j : Nat) (hj : k ≤ j) : (marks l k rs nd)[j]? = nd[j]? := by
  induction rs generalizing nd with
  | nil => rfl
  | cons r rs ih => show (marks l k rs (mark1 l k nd r))[j]? = _; rw [ih, mark1_keep _ _ _ _ _ hj]
theorem needStep_keep (l : List Stp) (k : Nat) (nd : List Bool) (j : Nat) (hj : k < j) : (needStep l k nd)[j]? = nd[j]? := by
  unfold needStep
  split
  · rw [marks_keep _ _ _ _ _ (by omega), List.getElem?_set, if_neg (by omega)]
  · rfl
theorem needFrom_keep (l : List Stp) (k : Nat) (nd : List Bool) (j : Nat) (hj : k ≤ j) : (needFrom l k nd)[j]? = nd[j]? := by
  induction k generalizing nd with
  | zero => rfl
  | succ k ih => show (needFrom l k (needStep l k nd))[j]? = _; rw [ih _ (by omega), needStep_keep _ _ _ _ (by omega)]
/-- Having come down to step k. -/
structure NInv (l : List Stp) (k : Nat) (nd : List Bool) (W : Nat → Bool) : Prop where
  len : nd.length = l.length
  ahead : ∀ j, j < k → (nd[j]? = some true ↔ ∃ r, W r = true ∧ setterI l r k = (j : Int))
  fin : needFrom l k nd = neededL l
theorem NInv.start (l : List Stp) : NInv l l.length (List.replicate l.length false) (fun _ => false) :=
  ⟨by simp, fun j hj => by simp [hj], rfl⟩
theorem NInv.isn {l : List Stp} {k : Nat} {nd : List Bool} {W : Nat → Bool} (h : NInv l (k + 1) nd W) (hk : k < l.length) : isN l k nd = pN l[k] W := by
  rw [isN_at hk (by rw [h.len]; exact hk)]
  have ha := h.ahead k (by omega)
  rw [List.getElem?_eq_getElem (by rw [h.len]; exact hk)] at ha
  unfold pN
  by_cases h5 : l[k].op ≤ 5
  · simp only [h5, decide_true, Bool.not_true, Bool.false_or, show ¬ 6 ≤ l[k].op by omega, decide_false, Bool.or_false]
    rw [Bool.eq_iff_iff]
    constructor
    · intro hn
      obtain ⟨r, h1, h2⟩ := ha.1 (by rw [hn])
      by_cases e : l[k].x = r
      · rw [e]; exact h1
      · rw [setterI_miss hk (fun h => e h.2)] at h2
        have := setterI_lt l r k
        omega
    · intro hw
      have := ha.2 ⟨l[k].x, hw, setterI_hit hk ⟨h5, rfl⟩⟩
      simpa using this
  · simp [h5, show 6 ≤ l[k].op by omega]
theorem NInv.val {l : List Stp} {k : Nat} {nd : List Bool} {W : Nat → Bool} (h : NInv l (k + 1) nd W) (hk : k < l.length) : (neededL l)[k]? = some (pN l[k] W) := by
  have hi := h.isn hk
  rw [← h.fin]
  show (needFrom l k (needStep l k nd))[k]? = _
  rw [needFrom_keep _ _ _ _ (Nat.le_refl k)]
  have hl : k < nd.length := by rw [h.len]; exact hk
  cases hp : isN l k nd with
  | true =>
    rw [needStep_yes hk hp, marks_keep _ _ _ _ _ (Nat.le_refl k), ← hi, hp]
    simp [hl]
  | false =>
    rw [needStep_no hp, ← hi, hp]
    rw [isN_at hk hl] at hp
    simp at hp
    simp [hl, hp.1]
theorem NInv.yes {l : List Stp} {k : Nat} {nd : List Bool} {W : Nat → Bool} (h : NInv l (k + 1) nd W) (hk : k < l.length) (hp : pN l[k] W = true) : NInv l k (needStep l k nd) (wAhead l[k] W) := by
  have hi := h.isn hk
  rw [hp] at hi
  refine ⟨by rw [needStep_len]; exact h.len, fun j hj => ?_, h.fin⟩
  rw [needStep_yes hk hi, marks_get, List.getElem?_set, if_neg (by omega), h.ahead j (by omega)]
  have hl : j < (nd.set k true).length := by simp; rw [h.len]; omega
  constructor
  · rintro (⟨r, h1, h2⟩ | ⟨_, r, h1, h2⟩)
    · by_cases e : l[k].op ≤ 5 ∧ l[k].x = r
      · rw [setterI_hit hk e] at h2; omega
      · rw [setterI_miss hk e] at h2
        exact ⟨r, (wAhead_iff _ _ _).2 (.inr ⟨h1, fun h => e ⟨h.1, h.2.symm⟩⟩), h2⟩
    · exact ⟨r, (wAhead_iff _ _ _).2 (.inl h1), h2⟩
  · rintro ⟨r, h1, h2⟩
    rcases (wAhead_iff _ _ _).1 h1 with h1 | ⟨h1, h3⟩
    · exact .inr ⟨hl, r, h1, h2⟩
    · exact .inl ⟨r, h1, by rw [setterI_miss hk (fun h => h3 ⟨h.1, h.2.symm⟩)]; exact h2⟩
theorem NInv.no {l : List Stp} {k : Nat} {nd : List Bool} {W : Nat → Bool} (h : NInv l (k + 1) nd W) (hk : k < l.length) (hp : pN l[k] W = false) : NInv l k (needStep l k nd) W := by
  have hi := h.isn hk
  rw [hp] at hi
  simp [pN] at hp
  refine ⟨by rw [needStep_len]; exact h.len, fun j hj => ?_, h.fin⟩
  rw [needStep_no hi, h.ahead j (by omega)]
  have hr : ∀ r, W r = true → setterI l r (k + 1) = setterI l r k := fun r hr => setterI_miss hk (fun h => by rw [h.2] at hp; simp [hr] at hp)
  constructor
  · rintro ⟨r, h1, h2⟩; exact ⟨r, h1, by rw [← hr r h1]; exact h2⟩
  · rintro ⟨r, h1, h2⟩; exact ⟨r, h1, by rw [hr r h1]; exact h2⟩
/-- What the program has told of the steps, having come down to k. -/
def toldTo (l : List Stp) (k : Nat) : List Bool := List.replicate k false ++ (neededL l).drop k
theorem toldTo_len (l : List Stp) (k : Nat) (hk : k ≤ l.length) : (toldTo l k).length = l.length := by simp [toldTo, neededL_len]; omega
theorem toldTo_start (l : List Stp) : toldTo l l.length = List.replicate l.length false := by
  unfold toldTo; rw [List.drop_of_length_le (by rw [neededL_len]; exact Nat.le_refl _)]; simp
theorem toldTo_zero (l : List Stp) : toldTo l 0 = neededL l := by simp [toldTo]
theorem toldTo_step {l : List Stp} {k : Nat} {b : Bool} (_hk : k < l.length) (h : (neededL l)[k]? = some b) : (toldTo l (k + 1)).set k b = toldTo l k := by
  apply List.ext_getElem?
  intro j
  have hn : (neededL l).length = l.length := neededL_len l
  unfold toldTo
  rw [List.getElem?_set]
  by_cases e : k = j
  · subst e
    rw [if_pos rfl]
    simp [List.getElem?_append, h]; omega
  · rw [if_neg e]
    by_cases hj : j < k
    · simp [List.getElem?_append, hj, show j < k + 1 by omega]
    · simp [List.getElem?_append, hj, show ¬ j < k + 1 by omega]
      congr 1
      omega
end Go.Proofs.YtmnfndpbblpjiaaGreatDoor.Pu

/- Codes: the steps that are kept, and the bytes of a code. -/
namespace Go.Proofs.YtmnfndpbblpjiaaGreatDoor.Pu
def stB (t : Stp) : List UInt8 := [UInt8.ofNat t.op, UInt8.ofNat t.x, UInt8.ofNat t.y, UInt8.ofNat t.z]
def keepTo (l : List Stp) (nd : List Bool) : Nat → List Stp
  | 0 => []
  | k + 1 => if nd[k]?.getD false then keepTo l nd k ++ [l[k]?.getD ⟨0, 0, 0, 0⟩] else keepTo l nd k
theorem keepTo_yes {l : List Stp} {nd : List Bool} {k : Nat} (h : k < nd.length) (hl : k < l.length) (hb : nd[k] = true) : keepTo l nd (k + 1) = keepTo l nd k ++ [l[k]] := by simp [keepTo, h, hb, hl]
theorem keepTo_no {l : List Stp} {nd : List Bool} {k : Nat} (h : k < nd.length) (hb : nd[k] = false) : keepTo l nd (k + 1) = keepTo l nd k := by simp [keepTo, h, hb]
theorem keepTo_len (l : List Stp) (nd : List Bool) (k : Nat) : (keepTo l nd k).length = cntTo nd k := by
  induction k with
  | zero => rfl
  | succ k ih => simp only [keepTo, cntTo]; split <;> simp [ih]
theorem keepTo_mem {l : List Stp} {nd : List Bool} {k : Nat} (hk : k ≤ l.length) : ∀ t ∈ keepTo l nd k, t ∈ l := by
  induction k with
  | zero => intro t ht; cases ht
  | succ k ih =>
    intro t ht
    have hl : k < l.length := by omega
    simp only [keepTo] at ht
    split at ht
    · rcases List.mem_append.1 ht with ht | ht
      · exact ih (by omega) t ht
      · simp [hl] at ht; subst ht; exact List.getElem_mem hl
    · exact ih (by omega) t ht
def joined (r i : Nat) (q : List Stp) : List UInt8 := [82, 85, UInt8.ofNat r, UInt8.ofNat i, UInt8.ofNat (q.length % 256), UInt8.ofNat (q.length / 256)] ++ q.flatMap stB
theorem ext4 {s : ByteArray} {a : Nat} (h : a + 4 ≤ s.size) : s.extract a (a + 4) = ⟨[UInt8.ofNat (g s a), UInt8.ofNat (g s (a + 1)), UInt8.ofNat (g s (a + 2)), UInt8.ofNat (g s (a + 3))].toArray⟩ := by
  have h0 : a < s.size := by omega
  have h1 : a + 1 < s.size := by omega
  have h2 : a + 2 < s.size := by omega
  have h3 : a + 3 < s.size := by omega
  rw [g_in h0, g_in h1, g_in h2, g_in h3]
  simp only [UInt8.ofNat_toNat]
  apply ByteArray.ext
  rw [ByteArray.data_extract]
  apply Array.ext
  · have : s.data.size = s.size := rfl
    simp; omega
  · intro i h1' h2'
    have hi : i < 4 := by simpa using h2'
    match i, hi with
    | 0, _ => simp; rfl
    | 1, _ => simp; rfl
    | 2, _ => simp; rfl
    | 3, _ => simp; rfl
theorem app_bytes (x y : List UInt8) : (⟨x.toArray⟩ : ByteArray) ++ (⟨y.toArray⟩ : ByteArray) = ⟨(x ++ y).toArray⟩ := by
  apply ByteArray.ext
  rw [ByteArray.data_append]
  simp
theorem body_bytes {s : ByteArray} (nd : List Bool) (hs : s.size = 6 + 4 * nst s) : ∀ k, k ≤ nst s → bodyTo s nd k = ⟨((keepTo (steps s) nd k).flatMap stB).toArray⟩ := by
  intro k
  induction k with
  | zero => intro _; rfl
  | succ k ih =>
    intro hk
    have hl : k < (steps s).length := by rw [steps, stepsTo_len]; omega
    simp only [bodyTo, keepTo]
    split
    · rw [ih (by omega), show 10 + 4 * k = (6 + 4 * k) + 4 by omega, ext4 (by omega), app_bytes]
      congr 2
      simp [hl, steps_at, stepAt, stB]
    · exact ih (by omega)
theorem shr_joined {s : ByteArray} (hb : begunB s = true) : shr s = ⟨(joined (g s 2) (g s 3) (keepTo (steps s) (neededL (steps s)) (nst s))).toArray⟩ := by
  obtain ⟨h6, -, -, hs, -, -, -⟩ := nst_of hb
  have h0 : g s 0 = 82 ∧ g s 1 = 85 := by simp [begunB] at hb; omega
  unfold shr joined
  rw [body_bytes _ hs _ (Nat.le_refl _), show s.extract 0 4 = s.extract 0 (0 + 4) by rfl, ext4 (by omega), keepTo_len, h0.1, show g s (0 + 1) = 85 from h0.2]
  rw [show (⟨#[UInt8.ofNat (cntTo (neededL (steps s)) (nst s) % 256), UInt8.ofNat (cntTo (neededL (steps s)) (nst s) / 256)]⟩ : ByteArray) = ⟨[UInt8.ofNat (cntTo (neededL (steps s)) (nst s) % 256), UInt8.ofNat (cntTo (neededL (steps s)) (nst s) / 256)].toArray⟩ by rfl, app_bytes, app_bytes]
  rfl
end Go.Proofs.YtmnfndpbblpjiaaGreatDoor.Pu

/- Whole numbers by digits to the base of 10000: plain functions. -/
namespace Go.Proofs.YtmnfndpbblpjiaaGreatDoor.Pu
def val : List Nat → Nat
  | [] => 0
  | d :: l => d + 10000 * val l
def valI : List Int → Int
  | [] => 0
  | d :: l => d + 10000 * valI l
def Dig (l : List Nat) : Prop := ∀ d ∈ l, d < 10000
/-- No nought at the top. -/
def Top (l : List Nat) : Prop := ∀ d, l.getLast? = some d → d ≠ 0
theorem val_append (a b : List Nat) : val (a ++ b) = val a + 10000 ^ a.length * val b := by
  induction a with
  | nil => simp [val]
  | cons d a ih =>
    simp only [List.cons_append, val, List.length_cons, Nat.pow_succ, ih]
    rw [Nat.mul_add, Nat.mul_comm (10000 ^ a.length) 10000, Nat.mul_assoc]; omega
theorem valI_append (a b : List Int) : valI (a ++ b) = valI a + (10000 : Int) ^ a.length * valI b := by
  induction a with
  | nil => simp [valI]
  | cons d a ih =>
    simp only [List.cons_append, valI, List.length_cons, Int.pow_succ, ih]
    rw [Int.mul_add, Int.mul_comm ((10000 : Int) ^ a.length) 10000, Int.mul_assoc]; omega
theorem val_lt {a : List Nat} (h : Dig a) : val a < 10000 ^ a.length := by
  induction a with
  | nil => simp [val]
  | cons d a ih =>
    have h1 := ih (fun x hx => h x (List.mem_cons_of_mem _ hx))
    have h2 := h d List.mem_cons_self
    simp only [val, List.length_cons, Nat.pow_succ]
    omega
theorem val_top {a : List Nat} (ht : Top a) (hn : a ≠ []) : 10000 ^ (a.length - 1) ≤ val a := by
  obtain ⟨b, d, rfl⟩ : ∃ b d, a = b ++ [d] := ⟨a.dropLast, a.getLast hn, (List.dropLast_concat_getLast hn).symm⟩
  have hd : d ≠ 0 := ht d (by simp)
  rw [val_append]
  simp only [List.length_append, List.length_cons, List.length_nil, Nat.zero_add, Nat.add_sub_cancel, val, Nat.mul_zero, Nat.add_zero]
  have : 10000 ^ b.length * 1 ≤ 10000 ^ b.length * d := Nat.mul_le_mul_left _ (by omega)
  omega
theorem val_shorter {a b : List Nat} (ha : Dig a) (hb : Top b) (h : a.length < b.length) : val a < val b := by
  have h1 := val_lt ha
  have h2 := val_top hb (by intro e; subst e; simp at h)
  have h3 : 10000 ^ a.length ≤ 10000 ^ (b.length - 1) := Nat.pow_le_pow_right (by omega) (by omega)
  omega
theorem val_less {a b t : List Nat} {x y : Nat} (ha : Dig a) (hl : a.length = b.length) (hxy : x < y) : val (a ++ x :: t) < val (b ++ y :: t) := by
  rw [val_append, val_append, ← hl]
  have h1 := val_lt ha
  simp only [val]
  have h2 : 10000 ^ a.length * (x + 10000 * val t + 1) ≤ 10000 ^ a.length * (y + 10000 * val t) := Nat.mul_le_mul_left _ (by omega)
  rw [Nat.mul_add] at h2
  omega
theorem val_zero_top {l : List Nat} : val (l ++ [0]) = val l := by rw [val_append]; simp [val]
theorem val_nil {l : List Nat} (ht : Top l) (h : val l = 0) : l = [] := by
  by_cases hn : l = []
  · exact hn
  · have := val_top ht hn
    have : 0 < 10000 ^ (l.length - 1) := Nat.pow_pos (by omega)
    omega
/-- A number: its sign and its digits. -/
def num (neg : Bool) (l : List Nat) : Int := if neg then -(val l : Int) else (val l : Int)
def Canon (neg : Bool) (l : List Nat) : Prop := Dig l ∧ Top l ∧ (l = [] → neg = false)
theorem num_neg (neg : Bool) (l : List Nat) : num (!neg) l = -num neg l := by cases neg <;> simp [num]
theorem Canon.sign {neg : Bool} {l : List Nat} (h : Canon neg l) : (num neg l = 0 ↔ l = []) ∧ (num neg l < 0 ↔ neg = true) := by
  constructor
  · constructor
    · intro h0
      refine val_nil h.2.1 ?_
      unfold num at h0; cases neg <;> simp at h0 <;> omega
    · intro h0; subst h0; cases neg <;> simp [num, val]
  · constructor
    · intro h0; unfold num at h0; cases neg
      · simp at h0; omega
      · rfl
    · intro h0; subst h0
      have hn : l ≠ [] := fun e => by have := h.2.2 e; cases this
      have h1 := val_top h.2.1 hn
      have h2 : 0 < 10000 ^ (l.length - 1) := Nat.pow_pos (by omega)
      simp [num]; omega
theorem Dig.append {a b : List Nat} (ha : Dig a) (hb : Dig b) : Dig (a ++ b) := fun d hd => by
  rcases List.mem_append.1 hd with h | h
  · exact ha d h
  · exact hb d h
theorem valI_le {d : List Int} (h : ∀ x ∈ d, x ≤ 200000000000000000) : 9999 * valI d ≤ 200000000000000000 * ((10000 : Int) ^ d.length - 1) := by
  induction d with
  | nil => simp [valI]
  | cons x d ih =>
    have h1 := ih (fun y hy => h y (List.mem_cons_of_mem _ hy))
    have h2 := h x List.mem_cons_self
    simp only [valI, List.length_cons, Int.pow_succ]
    generalize (10000 : Int) ^ d.length = P at *
    omega
/-- How far the carrying has come. -/
def CInv (d : List Int) (k : Nat) (os : List Nat) (over : Int) : Prop :=
  os.length = k ∧ Dig os ∧ (val os : Int) + (10000 : Int) ^ k * (over + valI (d.drop k)) = valI d ∧ -100000000000000 ≤ over ∧ over ≤ 100000000000000
theorem CInv.start (d : List Int) : CInv d 0 [] 0 := ⟨rfl, fun _ h => by simp at h, by simp [val], by omega, by omega⟩
theorem valI_drop (d : List Int) (k : Nat) : valI (d.drop k) = d[k]?.getD 0 + 10000 * valI (d.drop (k + 1)) := by
  by_cases h : k < d.length
  · rw [List.drop_eq_getElem_cons h]; simp [valI, h]
  · rw [List.drop_of_length_le (by omega), List.drop_of_length_le (by omega)]; simp [valI, show d.length ≤ k by omega]
theorem CInv.step {d : List Int} {k : Nat} {os : List Nat} {over : Int} (h : CInv d k os over) (hd : ∀ x ∈ d, -200000000000000000 ≤ x ∧ x ≤ 200000000000000000) (n : Int) (hn : n = over + d[k]?.getD 0) :
    CInv d (k + 1) (os ++ [(n % 10000).toNat]) (n / 10000) := by
  obtain ⟨h1, h2, h3, h4, h5⟩ := h
  have hb : -200000000000000000 ≤ d[k]?.getD 0 ∧ d[k]?.getD 0 ≤ 200000000000000000 := by
    by_cases hk : k < d.length
    · simp [hk]; exact hd _ (List.getElem_mem hk)
    · simp [show d.length ≤ k by omega]
  have hm : ((n % 10000).toNat : Int) = n % 10000 := Int.toNat_of_nonneg (Int.emod_nonneg _ (by omega))
  refine ⟨by simp [h1], h2.append (fun x hx => by simp at hx; omega), ?_, by omega, by omega⟩
  have e : (val (os ++ [(n % 10000).toNat]) : Int) = (val os : Int) + (10000 : Int) ^ k * (n % 10000) := by
    rw [val_append, h1]
    simp only [val, Nat.mul_zero, Nat.add_zero]
    rw [Int.natCast_add, Int.natCast_mul, hm]
    congr 2
  rw [e, Int.pow_succ, Int.mul_assoc, Int.add_assoc, ← Int.mul_add]
  rw [← h3, valI_drop d k]
  congr 2
  have := Int.emod_add_mul_ediv n 10000
  omega
theorem CInv.finish {d : List Int} {k : Nat} {os : List Nat} {over : Int} (h : CInv d k os over) (hk : d.length ≤ k) (ho : over ≤ 0) (hd : 0 ≤ valI d) : (val os : Int) = valI d := by
  obtain ⟨h1, h2, h3, h4, h5⟩ := h
  rw [List.drop_of_length_le hk] at h3
  simp only [valI, Int.add_zero] at h3
  have hv := val_lt h2
  rw [h1] at hv
  have hp : (val os : Int) < (10000 : Int) ^ k := by
    have : ((10000 ^ k : Nat) : Int) = (10000 : Int) ^ k := by simp
    omega
  by_cases h0 : over = 0
  · rw [h0] at h3; simpa using h3
  · exfalso
    have : (10000 : Int) ^ k * over ≤ (10000 : Int) ^ k * (-1) := Int.mul_le_mul_of_nonneg_left (by omega) (by have : (0 : Int) < (10000 : Int) ^ k := Int.pow_pos (by omega); omega)
    omega
theorem CInv.bound {d : List Int} {k : Nat} {os : List Nat} {over : Int} (h : CInv d k os over) (hk : d.length ≤ k) (ho : 0 < over) (hd : ∀ x ∈ d, -200000000000000000 ≤ x ∧ x ≤ 200000000000000000) : k ≤ d.length + 3 := by
  obtain ⟨h1, h2, h3, h4, h5⟩ := h
  rw [List.drop_of_length_le hk] at h3
  simp only [valI, Int.add_zero] at h3
  have hl := valI_le (fun x hx => (hd x hx).2)
  have hp : (10000 : Int) ^ k * 1 ≤ (10000 : Int) ^ k * over := Int.mul_le_mul_of_nonneg_left (by omega) (by have : (0 : Int) < (10000 : Int) ^ k := Int.pow_pos (by omega); omega)
  by_cases hle : k ≤ d.length + 3
  · exact hle
  · exfalso
    have hm : (10000 : Int) ^ (d.length + 4) ≤ (10000 : Int) ^ k := by
      have : 10000 ^ (d.length + 4) ≤ 10000 ^ k := Nat.pow_le_pow_right (by omega) (by omega)
      have e1 : ((10000 ^ (d.length + 4) : Nat) : Int) = (10000 : Int) ^ (d.length + 4) := by simp
      have e2 : ((10000 ^ k : Nat) : Int) = (10000 : Int) ^ k := by simp
      omega
    have e4 : (10000 : Int) ^ (d.length + 4) = (10000 : Int) ^ d.length * 10000000000000000 := by rw [Int.pow_add]; rfl
    have hq : (0 : Int) < (10000 : Int) ^ d.length := Int.pow_pos (by omega)
    rw [e4] at hm
    generalize (10000 : Int) ^ d.length = P at *
    generalize (10000 : Int) ^ k = K at *
    generalize K * over = KO at *
    omega
end Go.Proofs.YtmnfndpbblpjiaaGreatDoor.Pu

/- Products by digits: plain functions. -/
namespace Go.Proofs.YtmnfndpbblpjiaaGreatDoor.Pu
theorem valI_set {d : List Int} {k : Nat} (hk : k < d.length) (x : Int) : valI (d.set k x) = valI d + (10000 : Int) ^ k * (x - d[k]) := by
  induction d generalizing k with
  | nil => simp at hk
  | cons y d ih =>
    cases k with
    | zero => simp [valI]; omega
    | succ k =>
      have := ih (k := k) (by simpa using hk)
      simp only [List.set_cons_succ, valI, List.getElem_cons_succ, this, Int.pow_succ, Int.mul_add]
      rw [Int.mul_comm ((10000 : Int) ^ k) 10000, Int.mul_assoc]; omega
theorem valI_zero (n : Nat) : valI (List.replicate n 0) = 0 := by
  induction n with
  | zero => rfl
  | succ n ih => simp [List.replicate_succ, valI, ih]
theorem val_take {l : List Nat} {k : Nat} (h : k < l.length) : (val (l.take (k + 1)) : Int) = (val (l.take k) : Int) + (10000 : Int) ^ k * (l[k] : Int) := by
  rw [List.take_succ_eq_append_getElem h, val_append]
  have : (l.take k).length = k := by simp; omega
  rw [this]; simp [val]
/-- How far the multiplying has come: i rows, and j places of the next. -/
def MInv (a b : List Nat) (d : List Int) (i j : Nat) : Prop :=
  d.length = a.length + b.length ∧ valI d = (val (a.take i) : Int) * (val b : Int) + (10000 : Int) ^ i * ((a[i]?.getD 0 : Nat) : Int) * (val (b.take j) : Int) ∧
  (∀ k (hk : k < d.length), 0 ≤ d[k] ∧ d[k] ≤ 100000000 * ((i : Int) + 1)) ∧ (∀ k (hk : k < d.length), i + j ≤ k → d[k] ≤ 100000000 * (i : Int))
theorem MInv.start (a b : List Nat) : MInv a b (List.replicate (a.length + b.length) 0) 0 0 := by
  refine ⟨by simp, ?_, fun k hk => ?_, fun k hk _ => ?_⟩
  · rw [valI_zero]; simp [val]
  · simp
  · simp
theorem MInv.step {a b : List Nat} {d : List Int} {i j : Nat} (h : MInv a b d i j) (ha : Dig a) (hb : Dig b) (hi : i < a.length) (hj : j < b.length) (hk : i + j < d.length) :
    MInv a b (d.set (i + j) (d[i + j] + (a[i] : Int) * (b[j] : Int))) i (j + 1) := by
  obtain ⟨h1, h2, h3, h4⟩ := h
  have hda := ha _ (List.getElem_mem hi)
  have hdb := hb _ (List.getElem_mem hj)
  have hp0 : 0 ≤ (a[i] : Int) * (b[j] : Int) := Int.mul_nonneg (by omega) (by omega)
  have hp1 : (a[i] : Int) * (b[j] : Int) ≤ 9999 * 9999 := by
    have : a[i] * b[j] ≤ 9999 * 9999 := Nat.mul_le_mul (by omega) (by omega)
    have e : ((a[i] * b[j] : Nat) : Int) = (a[i] : Int) * (b[j] : Int) := by simp
    omega
  refine ⟨by simpa using h1, ?_, fun k hk' => ?_, fun k hk' hle => ?_⟩
  · rw [valI_set hk, h2, val_take hj]
    have e0 : ((a[i]?.getD 0 : Nat) : Int) = (a[i] : Int) := by simp [hi]
    rw [e0]
    have e1 : d[i + j] + (a[i] : Int) * (b[j] : Int) - d[i + j] = (a[i] : Int) * (b[j] : Int) := by omega
    rw [e1, Int.mul_add, Int.pow_add, Int.add_assoc]
    congr 2
    simp only [Int.mul_assoc, Int.mul_left_comm]
  · have hkd : k < d.length := by simpa using hk'
    rw [List.getElem_set]
    split
    · have := (h3 (i + j) hk).1
      have := h4 (i + j) hk (Nat.le_refl _)
      omega
    · exact h3 k hkd
  · have hkd : k < d.length := by simpa using hk'
    rw [List.getElem_set, if_neg (by omega)]
    exact h4 k hkd (by omega)
theorem MInv.row {a b : List Nat} {d : List Int} {i : Nat} (h : MInv a b d i b.length) (hi : i < a.length) : MInv a b d (i + 1) 0 := by
  obtain ⟨h1, h2, h3, h4⟩ := h
  refine ⟨h1, ?_, fun k hk => ?_, fun k hk hle => ?_⟩
  · rw [h2, val_take hi, List.take_length]
    have e0 : ((a[i]?.getD 0 : Nat) : Int) = (a[i] : Int) := by simp [hi]
    rw [e0]
    simp [val, Int.add_mul]
  · have := h3 k hk; omega
  · have := (h3 k hk).2; omega
theorem MInv.done {a b : List Nat} {d : List Int} {i : Nat} (h : MInv a b d i 0) (hi : a.length ≤ i) : valI d = (val a : Int) * (val b : Int) := by
  rw [h.2.1, List.take_of_length_le hi]
  simp [val]
theorem MInv.bound {a b : List Nat} {d : List Int} {i j : Nat} (h : MInv a b d i j) (hi : i ≤ 1000000001) : ∀ x ∈ d, -200000000000000000 ≤ x ∧ x ≤ 200000000000000000 := by
  intro x hx
  obtain ⟨k, hk, rfl⟩ := List.getElem_of_mem hx
  have := h.2.2.1 k hk
  omega
theorem num_mul (nx ny : Bool) (a b os : List Nat) (h : (val os : Int) = (val a : Int) * (val b : Int)) : num (nx != ny) os = num nx a * num ny b := by
  cases nx <;> cases ny <;> simp [num, h, Int.neg_mul, Int.mul_neg]
end Go.Proofs.YtmnfndpbblpjiaaGreatDoor.Pu

/- Numerals and texts of inputs: plain functions. -/
namespace Go.Proofs.YtmnfndpbblpjiaaGreatDoor.Pu
def decN (n : Nat) : List UInt8 := if 9 < n then [UInt8.ofNat (48 + n / 10), UInt8.ofNat (48 + n % 10)] else [UInt8.ofNat (48 + n % 10)]
/-- The digits of a number from -99 to 99. -/
def dec (n : Int) : ByteArray := ⟨((if n < 0 then [45] else []) ++ decN n.natAbs).toArray⟩
theorem dec_nat (n : Nat) : dec (n : Int) = ⟨(decN n).toArray⟩ := by
  unfold dec; rw [if_neg (by omega)]; simp
theorem dec_neg (n : Nat) (h : 0 < n) : dec (-(n : Int)) = ⟨(45 :: decN n).toArray⟩ := by
  unfold dec; rw [if_pos (by omega)]; simp
theorem dec_size (n : Int) : (dec n).size ≤ 3 := by
  show (((if n < 0 then [45] else []) ++ decN n.natAbs).toArray).size ≤ 3
  unfold decN
  split <;> split <;> simp
/-- The number of a text. -/
def numer (t : ByteArray) : Option Int := ((List.range 199).find? fun (i : Nat) => decide (t = dec ((i : Int) - 99))).map fun (i : Nat) => (i : Int) - 99
theorem numer_some {t : ByteArray} {j : Nat} (hj : j < 199) (h : t = dec ((j : Int) - 99)) (hb : ∀ i : Nat, i < j → t ≠ dec ((i : Int) - 99)) : numer t = some ((j : Int) - 99) := by
  have : (List.range 199).find? (fun (i : Nat) => decide (t = dec ((i : Int) - 99))) = some j := by
    rw [List.find?_range_eq_some]
    exact ⟨by simp [← h], by simpa using hj, fun i hi => by simpa using hb i hi⟩
  simp [numer, this]
theorem numer_none {t : ByteArray} (hb : ∀ i : Nat, i < 199 → t ≠ dec ((i : Int) - 99)) : numer t = none := by
  have : (List.range 199).find? (fun (i : Nat) => decide (t = dec ((i : Int) - 99))) = none := by
    rw [List.find?_eq_none]
    intro i hi
    simpa using hb i (by simpa using hi)
  simp [numer, this]
theorem numer_range {t : ByteArray} {n : Int} (h : numer t = some n) : -99 ≤ n ∧ n ≤ 99 := by
  unfold numer at h
  obtain ⟨i, hi, rfl⟩ := Option.map_eq_some_iff.1 h
  have := List.mem_of_find?_eq_some hi
  simp at this
  omega
/-- What the look at a text of inputs has come to ahead of place i: where the next numeral begins, and the numbers. -/
def inpSt (s : ByteArray) : Nat → Option (Nat × List Int)
  | 0 => some (0, [])
  | i + 1 => match inpSt s i with
    | none => none
    | some (f, l) => if i = s.size ∨ g s i = 44 then (match numer (s.extract f i) with
        | some n => some (i + 1, l ++ [n])
        | none => none) else some (f, l)
def inps (s : ByteArray) : Option (List Int) := if s.size = 0 then some [] else (inpSt s (s.size + 1)).map fun p => p.2
theorem inpSt_none {s : ByteArray} {i : Nat} (h : inpSt s i = none) : ∀ k, i ≤ k → inpSt s k = none := by
  intro k hk
  induction k with
  | zero =>
    have : i = 0 := by omega
    subst this; exact h
  | succ k ih =>
    by_cases e : i = k + 1
    · subst e; exact h
    · simp [inpSt, ih (by omega)]
theorem inpSt_num {s : ByteArray} {i f : Nat} {l : List Int} {n : Int} (h : inpSt s i = some (f, l)) (hc : i = s.size ∨ g s i = 44) (hn : numer (s.extract f i) = some n) : inpSt s (i + 1) = some (i + 1, l ++ [n]) := by
  simp only [inpSt, h]
  rw [if_pos hc, hn]
theorem inpSt_bad {s : ByteArray} {i f : Nat} {l : List Int} (h : inpSt s i = some (f, l)) (hc : i = s.size ∨ g s i = 44) (hn : numer (s.extract f i) = none) : inpSt s (i + 1) = none := by
  simp only [inpSt, h]
  rw [if_pos hc, hn]
theorem inpSt_on {s : ByteArray} {i f : Nat} {l : List Int} (h : inpSt s i = some (f, l)) (hc : ¬ (i = s.size ∨ g s i = 44)) : inpSt s (i + 1) = some (f, l) := by
  simp only [inpSt, h]
  rw [if_neg hc]
theorem inps_bad {s : ByteArray} {i f : Nat} {l : List Int} (h0 : s.size ≠ 0) (hi : i ≤ s.size) (h : inpSt s i = some (f, l)) (hc : i = s.size ∨ g s i = 44) (hn : numer (s.extract f i) = none) : inps s = none := by
  simp [inps, h0, inpSt_none (inpSt_bad h hc hn) (s.size + 1) (by omega)]
theorem inps_good {s : ByteArray} {f : Nat} {l : List Int} (h0 : s.size ≠ 0) (h : inpSt s (s.size + 1) = some (f, l)) : inps s = some l := by simp [inps, h0, h]
end Go.Proofs.YtmnfndpbblpjiaaGreatDoor.Pu

/- Codes: plain functions: execution. B is the bound of a number's size. -/
namespace Go.Proofs.YtmnfndpbblpjiaaGreatDoor.Pu
def sgn (x : Int) : Int := if x < 0 then -1 else if x = 0 then 0 else 1
def reg (regs : List Int) (r : Nat) : Int := regs[r]?.getD 0
/-- To which a step sets its register. -/
def valOf (t : Stp) (regs ins : List Int) : Int :=
  if t.op = 0 then ins[t.y]?.getD 0
  else if t.op = 1 then (t.y : Int)
  else if t.op = 2 then reg regs t.y + reg regs t.z
  else if t.op = 3 then reg regs t.y - reg regs t.z
  else if t.op = 4 then reg regs t.y * reg regs t.z
  else sgn (reg regs t.y)
def spc (y : Nat) : UInt8 := if y = 0 then 115 else if y = 1 then 112 else 99
/-- The report of right steps, and the error. -/
def play (B : Nat) (ins : List Int) : List Stp → List Int → ByteArray → ByteArray × Nat
  | [], _, s => (s, 0)
  | t :: l, regs, s =>
    if t.op < 6 then (if B ≤ (valOf t regs ins).natAbs then (⟨#[]⟩, 10) else play B ins l (regs.set t.x (valOf t regs ins)) s)
    else if t.op = 6 then play B ins l regs (s ++ ⟨#[if 0 < reg regs t.x then 49 else 48]⟩)
    else if reg regs t.x = 0 then (s ++ ⟨#[spc t.y]⟩ ++ dec (t.z : Int), 0)
    else play B ins l regs s
theorem play_big {B : Nat} {ins : List Int} {t : Stp} {l : List Stp} {regs : List Int} {s : ByteArray} (h : t.op < 6) (hb : B ≤ (valOf t regs ins).natAbs) : play B ins (t :: l) regs s = (⟨#[]⟩, 10) := by simp [play, h, hb]
theorem play_set {B : Nat} {ins : List Int} {t : Stp} {l : List Stp} {regs : List Int} {s : ByteArray} (h : t.op < 6) (hb : ¬ B ≤ (valOf t regs ins).natAbs) : play B ins (t :: l) regs s = play B ins l (regs.set t.x (valOf t regs ins)) s := by simp [play, h, hb]
theorem play_out {B : Nat} {ins : List Int} {t : Stp} {l : List Stp} {regs : List Int} {s : ByteArray} (h : t.op = 6) : play B ins (t :: l) regs s = play B ins l regs (s ++ ⟨#[if 0 < reg regs t.x then 49 else 48]⟩) := by simp [play, h]
theorem play_end {B : Nat} {ins : List Int} {t : Stp} {l : List Stp} {regs : List Int} {s : ByteArray} (h : 6 < t.op) (h0 : reg regs t.x = 0) : play B ins (t :: l) regs s = (s ++ ⟨#[spc t.y]⟩ ++ dec (t.z : Int), 0) := by
  rw [play, if_neg (by omega), if_neg (by omega), if_pos h0]
theorem play_on {B : Nat} {ins : List Int} {t : Stp} {l : List Stp} {regs : List Int} {s : ByteArray} (h : 6 < t.op) (h0 : reg regs t.x ≠ 0) : play B ins (t :: l) regs s = play B ins l regs s := by
  rw [play, if_neg (by omega), if_neg (by omega), if_neg h0]
/-- What Exec answers of texts that are not too long. -/
def exe (B : Nat) (s inp : ByteArray) : ByteArray × Nat :=
  if (vfy s).1 ≠ 0 then (⟨#[]⟩, (vfy s).1)
  else match inps inp with
    | none => (⟨#[]⟩, 9)
    | some ins => if ins.length ≠ g s 3 then (⟨#[]⟩, 9) else play B ins (steps s) (List.replicate 128 0) ⟨#[]⟩
end Go.Proofs.YtmnfndpbblpjiaaGreatDoor.Pu
