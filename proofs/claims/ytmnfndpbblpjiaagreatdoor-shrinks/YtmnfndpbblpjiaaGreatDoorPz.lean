/- Codes: what is wanted ahead of a step, against who set it. -/
import Derived.Test.YtmnfndpbblpjiaaGreatDoorPw
import Derived.Test.YtmnfndpbblpjiaaGreatDoorPq
namespace Go.Proofs.YtmnfndpbblpjiaaGreatDoor.Pu

def upd (r : Nat) (b : Bool) (W : Nat → Bool) : Nat → Bool := fun i => if i = r then b else W i
def wAhead (t : Stp) (W : Nat → Bool) : Nat → Bool :=
  if rz t.op then upd t.z true (if ry t.op then upd t.y true (upd t.x (!decide (t.op ≤ 5)) W) else upd t.x (!decide (t.op ≤ 5)) W)
  else (if ry t.op then upd t.y true (upd t.x (!decide (t.op ≤ 5)) W) else upd t.x (!decide (t.op ≤ 5)) W)
def pN (t : Stp) (W : Nat → Bool) : Bool := !decide (t.op ≤ 5) || W t.x
theorem wAhead_iff (t : Stp) (W : Nat → Bool) (r : Nat) : wAhead t W r = true ↔ r ∈ readsOf t ∨ (W r = true ∧ ¬ (t.op ≤ 5 ∧ r = t.x)) := by
  obtain ⟨op, x, y, z⟩ := t
  unfold wAhead upd readsOf ry rz
  have h : op = 0 ∨ op = 1 ∨ op = 2 ∨ op = 3 ∨ op = 4 ∨ op = 5 ∨ 5 < op := by omega
  rcases h with rfl | rfl | rfl | rfl | rfl | rfl | h
  · by_cases c : r = x <;> simp [c]
  · by_cases c : r = x <;> simp [c]
  · by_cases a : r = z <;> by_cases b : r = y <;> by_cases c : r = x <;> simp [a, b, c] <;> simp_all
  · by_cases a : r = z <;> by_cases b : r = y <;> by_cases c : r = x <;> simp [a, b, c] <;> simp_all
  · by_cases a : r = z <;> by_cases b : r = y <;> by_cases c : r = x <;> simp [a, b, c] <;> simp_all
  · by_cases b : r = y <;> by_cases c : r = x <;> simp [b, c] <;> simp_all
  · by_cases c : r = x <;> simp [c, show ¬ op = 2 by omega, show ¬ op = 3 by omega, show ¬ op = 4 by omega, show ¬ op = 5 by omega, show ¬ op ≤ 5 by omega, show ¬ op ≤ 4 by omega, show 6 ≤ op by omega]
theorem mark1_get (l : List Stp) (k : Nat) (nd : List Bool) (r j : Nat) : (mark1 l k nd r)[j]? = some true ↔ nd[j]? = some true ∨ (j < nd.length ∧ setterI l r k = (j : Int)) := by
  unfold mark1
  by_cases h : 0 ≤ setterI l r k
  · rw [if_pos h, List.getElem?_set]
    by_cases e : (setterI l r k).toNat = j
    · have : setterI l r k = (j : Int) := by omega
      rw [if_pos e]
      by_cases hl : j < nd.length
      · simp [hl, this]
      · simp [e, hl]
    · have : setterI l r k ≠ (j : Int) := by omega
      rw [if_neg e]
      simp [this]
  · rw [if_neg h]
    have : setterI l r k ≠ (j : Int) := by omega
    simp [this]
theorem marks_get (l : List Stp) (k : Nat) (rs : List Nat) (nd : List Bool) (j : Nat) : (marks l k rs nd)[j]? = some true ↔ nd[j]? = some true ∨ (j < nd.length ∧ ∃ r ∈ rs, setterI l r k = (j : Int)) := by
  induction rs generalizing nd with
  | nil => simp [marks]
  | cons r rs ih =>
    show (marks l k rs (mark1 l k nd r))[j]? = some true ↔ _
    rw [ih, mark1_get, mark1_len]
    constructor
    · rintro ((h | ⟨h1, h2⟩) | ⟨h1, r', h2, h3⟩)
      · exact .inl h
      · exact .inr ⟨h1, r, by simp, h2⟩
      · exact .inr ⟨h1, r', by simp [h2], h3⟩
    · rintro (h | ⟨h1, r', h2, h3⟩)
      · exact .inl (.inl h)
      · rcases List.mem_cons.1 h2 with rfl | h2
        · exact .inl (.inr ⟨h1, h3⟩)
        · exact .inr ⟨h1, r', h2, h3⟩
theorem mark1_keep (l : List Stp) (k : Nat) (nd : List Bool) (r j : Nat) (hj : k ≤ j) : (mark1 l k nd r)[j]? = nd[j]? := by
  unfold mark1
  have := setterI_lt l r k
  split
  · rw [List.getElem?_set, if_neg (by omega)]
  · rfl
theorem marks_keep (l : List Stp) (k : Nat) (rs : List Nat) (nd : List Bool) (j : Nat) (hj : k ≤ j) : (marks l k rs nd)[j]? = nd[j]? := by
  induction rs generalizing nd with
  | nil => rfl
  | cons r rs ih => show (marks l k rs (mark1 l k nd r))[j]? = _; rw [ih, mark1_keep _ _ _ _ _ hj]
theorem needStep_keep (l : List Stp) (k : Nat) (nd : List Bool) (j : Nat) (hj : k < j) : (needStep l k nd)[j]? = nd[j]? := by
  unfold needStep
  split
  · rw [marks_keep _ _ _ _ _ (by omega), List.getElem?_set, if_neg (by omega)]
  · rfl
theorem needFrom_keep (l : List Stp) (k : Nat) (nd : List Bool) (j : Nat) (hj : k ≤ j) : (needFrom l k nd)[j]? = nd[j]? := by
  induction k generalizing nd with
  | zero => rfl
  | succ k ih => show (needFrom l k (needStep l k nd))[j]? = _; rw [ih _ (by omega), needStep_keep _ _ _ _ (by omega)]
/-- Having come down to step k. -/
structure NInv (l : List Stp) (k : Nat) (nd : List Bool) (W : Nat → Bool) : Prop where
  len : nd.length = l.length
  ahead : ∀ j, j < k → (nd[j]? = some true ↔ ∃ r, W r = true ∧ setterI l r k = (j : Int))
  fin : needFrom l k nd = neededL l
theorem NInv.start (l : List Stp) : NInv l l.length (List.replicate l.length false) (fun _ => false) :=
  ⟨by simp, fun j hj => by simp [hj], rfl⟩
theorem NInv.isn {l : List Stp} {k : Nat} {nd : List Bool} {W : Nat → Bool} (h : NInv l (k + 1) nd W) (hk : k < l.length) : isN l k nd = pN l[k] W := by
  rw [isN_at hk (by rw [h.len]; exact hk)]
  have ha := h.ahead k (by omega)
  rw [List.getElem?_eq_getElem (by rw [h.len]; exact hk)] at ha
  unfold pN
  by_cases h5 : l[k].op ≤ 5
  · simp only [h5, decide_true, Bool.not_true, Bool.false_or, show ¬ 6 ≤ l[k].op by omega, decide_false, Bool.or_false]
    rw [Bool.eq_iff_iff]
    constructor
    · intro hn
      obtain ⟨r, h1, h2⟩ := ha.1 (by rw [hn])
      by_cases e : l[k].x = r
      · rw [e]; exact h1
      · rw [setterI_miss hk (fun h => e h.2)] at h2
        have := setterI_lt l r k
        omega
    · intro hw
      have := ha.2 ⟨l[k].x, hw, setterI_hit hk ⟨h5, rfl⟩⟩
      simpa using this
  · simp [h5, show 6 ≤ l[k].op by omega]
theorem NInv.val {l : List Stp} {k : Nat} {nd : List Bool} {W : Nat → Bool} (h : NInv l (k + 1) nd W) (hk : k < l.length) : (neededL l)[k]? = some (pN l[k] W) := by
  have hi := h.isn hk
  rw [← h.fin]
  show (needFrom l k (needStep l k nd))[k]? = _
  rw [needFrom_keep _ _ _ _ (Nat.le_refl k)]
  have hl : k < nd.length := by rw [h.len]; exact hk
  cases hp : isN l k nd with
  | true =>
    rw [needStep_yes hk hp, marks_keep _ _ _ _ _ (Nat.le_refl k), ← hi, hp]
    simp [hl]
  | false =>
    rw [needStep_no hp, ← hi, hp]
    rw [isN_at hk hl] at hp
    simp at hp
    simp [hl, hp.1]
theorem NInv.yes {l : List Stp} {k : Nat} {nd : List Bool} {W : Nat → Bool} (h : NInv l (k + 1) nd W) (hk : k < l.length) (hp : pN l[k] W = true) : NInv l k (needStep l k nd) (wAhead l[k] W) := by
  have hi := h.isn hk
  rw [hp] at hi
  refine ⟨by rw [needStep_len]; exact h.len, fun j hj => ?_, h.fin⟩
  rw [needStep_yes hk hi, marks_get, List.getElem?_set, if_neg (by omega), h.ahead j (by omega)]
  have hl : j < (nd.set k true).length := by simp; rw [h.len]; omega
  constructor
  · rintro (⟨r, h1, h2⟩ | ⟨_, r, h1, h2⟩)
    · by_cases e : l[k].op ≤ 5 ∧ l[k].x = r
      · rw [setterI_hit hk e] at h2; omega
      · rw [setterI_miss hk e] at h2
        exact ⟨r, (wAhead_iff _ _ _).2 (.inr ⟨h1, fun h => e ⟨h.1, h.2.symm⟩⟩), h2⟩
    · exact ⟨r, (wAhead_iff _ _ _).2 (.inl h1), h2⟩
  · rintro ⟨r, h1, h2⟩
    rcases (wAhead_iff _ _ _).1 h1 with h1 | ⟨h1, h3⟩
    · exact .inr ⟨hl, r, h1, h2⟩
    · exact .inl ⟨r, h1, by rw [setterI_miss hk (fun h => h3 ⟨h.1, h.2.symm⟩)]; exact h2⟩
theorem NInv.no {l : List Stp} {k : Nat} {nd : List Bool} {W : Nat → Bool} (h : NInv l (k + 1) nd W) (hk : k < l.length) (hp : pN l[k] W = false) : NInv l k (needStep l k nd) W := by
  have hi := h.isn hk
  rw [hp] at hi
  simp [pN] at hp
  refine ⟨by rw [needStep_len]; exact h.len, fun j hj => ?_, h.fin⟩
  rw [needStep_no hi, h.ahead j (by omega)]
  have hr : ∀ r, W r = true → setterI l r (k + 1) = setterI l r k := fun r hr => setterI_miss hk (fun h => by rw [h.2] at hp; simp [hr] at hp)
  constructor
  · rintro ⟨r, h1, h2⟩; exact ⟨r, h1, by rw [← hr r h1]; exact h2⟩
  · rintro ⟨r, h1, h2⟩; exact ⟨r, h1, by rw [hr r h1]; exact h2⟩
/-- What the program has told of the steps, having come down to k. -/
def toldTo (l : List Stp) (k : Nat) : List Bool := List.replicate k false ++ (neededL l).drop k
theorem toldTo_len (l : List Stp) (k : Nat) (hk : k ≤ l.length) : (toldTo l k).length = l.length := by simp [toldTo, neededL_len]; omega
theorem toldTo_start (l : List Stp) : toldTo l l.length = List.replicate l.length false := by
  unfold toldTo; rw [List.drop_of_length_le (by rw [neededL_len]; exact Nat.le_refl _)]; simp
theorem toldTo_zero (l : List Stp) : toldTo l 0 = neededL l := by simp [toldTo]
theorem toldTo_step {l : List Stp} {k : Nat} {b : Bool} (_hk : k < l.length) (h : (neededL l)[k]? = some b) : (toldTo l (k + 1)).set k b = toldTo l k := by
  apply List.ext_getElem?
  intro j
  have hn : (neededL l).length = l.length := neededL_len l
  unfold toldTo
  rw [List.getElem?_set]
  by_cases e : k = j
  · subst e
    rw [if_pos rfl]
    simp [List.getElem?_append, h]; omega
  · rw [if_neg e]
    by_cases hj : j < k
    · simp [List.getElem?_append, hj, show j < k + 1 by omega]
    · simp [List.getElem?_append, hj, show ¬ j < k + 1 by omega]
      congr 1
      omega
end Go.Proofs.YtmnfndpbblpjiaaGreatDoor.Pu
