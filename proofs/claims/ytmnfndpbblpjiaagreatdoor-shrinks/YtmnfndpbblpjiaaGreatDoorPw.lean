/- Codes: plain functions: which steps are needed. -/
import Derived.Test.YtmnfndpbblpjiaaGreatDoorPv
namespace Go.Proofs.YtmnfndpbblpjiaaGreatDoor.Pu

def mark1 (l : List Stp) (k : Nat) (nd : List Bool) (r : Nat) : List Bool := if 0 ≤ setterI l r k then nd.set (setterI l r k).toNat true else nd
def marks (l : List Stp) (k : Nat) (rs : List Nat) (nd : List Bool) : List Bool := rs.foldl (mark1 l k) nd
def isN (l : List Stp) (k : Nat) (nd : List Bool) : Bool := nd[k]?.getD false || decide (6 ≤ (l[k]?.getD ⟨0, 0, 0, 0⟩).op)
def needStep (l : List Stp) (k : Nat) (nd : List Bool) : List Bool :=
  if isN l k nd then marks l k (readsOf (l[k]?.getD ⟨0, 0, 0, 0⟩)) (nd.set k true) else nd
def needFrom (l : List Stp) : Nat → List Bool → List Bool
  | 0, nd => nd
  | k + 1, nd => needFrom l k (needStep l k nd)
def neededL (l : List Stp) : List Bool := needFrom l l.length (List.replicate l.length false)
theorem mark1_len (l : List Stp) (k : Nat) (nd : List Bool) (r : Nat) : (mark1 l k nd r).length = nd.length := by unfold mark1; split <;> simp
theorem marks_len (l : List Stp) (k : Nat) (rs : List Nat) (nd : List Bool) : (marks l k rs nd).length = nd.length := by
  induction rs generalizing nd with
  | nil => rfl
  | cons r rs ih => show (marks l k rs (mark1 l k nd r)).length = _; rw [ih, mark1_len]
theorem needStep_len (l : List Stp) (k : Nat) (nd : List Bool) : (needStep l k nd).length = nd.length := by
  unfold needStep; split
  · rw [marks_len]; simp
  · rfl
theorem needFrom_len (l : List Stp) (k : Nat) (nd : List Bool) : (needFrom l k nd).length = nd.length := by
  induction k generalizing nd with
  | zero => rfl
  | succ k ih => show (needFrom l k (needStep l k nd)).length = _; rw [ih, needStep_len]
theorem neededL_len (l : List Stp) : (neededL l).length = l.length := by unfold neededL; rw [needFrom_len]; simp
theorem marks_take (l : List Stp) (k : Nat) (rs : List Nat) (nd : List Bool) (j : Nat) (hj : j < rs.length) : marks l k (rs.take (j + 1)) nd = mark1 l k (marks l k (rs.take j) nd) rs[j] := by
  unfold marks
  rw [List.take_succ_eq_append_getElem hj, List.foldl_append]
  rfl
theorem isN_at {l : List Stp} {k : Nat} {nd : List Bool} (hk : k < l.length) (hn : k < nd.length) : isN l k nd = (nd[k] || decide (6 ≤ l[k].op)) := by simp [isN, hk, hn]
theorem needStep_yes {l : List Stp} {k : Nat} {nd : List Bool} (hk : k < l.length) (h : isN l k nd = true) : needStep l k nd = marks l k (readsOf l[k]) (nd.set k true) := by simp [needStep, h, hk]
theorem needStep_no {l : List Stp} {k : Nat} {nd : List Bool} (h : isN l k nd = false) : needStep l k nd = nd := by simp [needStep, h]

/-- The steps that are kept, ahead of step k, and how many they are. -/
def bodyTo (s : ByteArray) (nd : List Bool) : Nat → ByteArray
  | 0 => ⟨#[]⟩
  | k + 1 => if nd[k]?.getD false then bodyTo s nd k ++ s.extract (6 + 4 * k) (10 + 4 * k) else bodyTo s nd k
def cntTo (nd : List Bool) : Nat → Nat
  | 0 => 0
  | k + 1 => if nd[k]?.getD false then cntTo nd k + 1 else cntTo nd k
theorem cntTo_le (nd : List Bool) (k : Nat) : cntTo nd k ≤ k := by
  induction k with
  | zero => simp [cntTo]
  | succ k ih => simp only [cntTo]; split <;> omega
theorem bodyTo_yes {s : ByteArray} {nd : List Bool} {k : Nat} (h : k < nd.length) (hb : nd[k] = true) : bodyTo s nd (k + 1) = bodyTo s nd k ++ s.extract (6 + 4 * k) (10 + 4 * k) := by simp [bodyTo, h, hb]
theorem bodyTo_no {s : ByteArray} {nd : List Bool} {k : Nat} (h : k < nd.length) (hb : nd[k] = false) : bodyTo s nd (k + 1) = bodyTo s nd k := by simp [bodyTo, h, hb]
theorem cntTo_yes {nd : List Bool} {k : Nat} (h : k < nd.length) (hb : nd[k] = true) : cntTo nd (k + 1) = cntTo nd k + 1 := by simp [cntTo, h, hb]
theorem cntTo_no {nd : List Bool} {k : Nat} (h : k < nd.length) (hb : nd[k] = false) : cntTo nd (k + 1) = cntTo nd k := by simp [cntTo, h, hb]
theorem bodyTo_size (s : ByteArray) (nd : List Bool) (k : Nat) : (bodyTo s nd k).size ≤ 4 * k := by
  induction k with
  | zero => simp [bodyTo, ByteArray.size]
  | succ k ih =>
    simp only [bodyTo]; split
    · rw [ByteArray.size_append, ByteArray.size_extract]; omega
    · omega
/-- What Shrink answers of a right code. -/
def shr (s : ByteArray) : ByteArray :=
  s.extract 0 4 ++ ⟨#[UInt8.ofNat (cntTo (neededL (steps s)) (nst s) % 256), UInt8.ofNat (cntTo (neededL (steps s)) (nst s) / 256)]⟩ ++ bodyTo s (neededL (steps s)) (nst s)

end Go.Proofs.YtmnfndpbblpjiaaGreatDoor.Pu
