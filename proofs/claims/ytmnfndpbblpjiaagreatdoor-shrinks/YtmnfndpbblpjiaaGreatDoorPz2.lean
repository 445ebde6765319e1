/- Codes: the steps that are kept, and the bytes of a code. -/
import Derived.Test.YtmnfndpbblpjiaaGreatDoorPz
namespace Go.Proofs.YtmnfndpbblpjiaaGreatDoor.Pu

def stB (t : Stp) : List UInt8 := [UInt8.ofNat t.op, UInt8.ofNat t.x, UInt8.ofNat t.y, UInt8.ofNat t.z]
def keepTo (l : List Stp) (nd : List Bool) : Nat → List Stp
  | 0 => []
  | k + 1 => if nd[k]?.getD false then keepTo l nd k ++ [l[k]?.getD ⟨0, 0, 0, 0⟩] else keepTo l nd k
theorem keepTo_yes {l : List Stp} {nd : List Bool} {k : Nat} (h : k < nd.length) (hl : k < l.length) (hb : nd[k] = true) : keepTo l nd (k + 1) = keepTo l nd k ++ [l[k]] := by simp [keepTo, h, hb, hl]
theorem keepTo_no {l : List Stp} {nd : List Bool} {k : Nat} (h : k < nd.length) (hb : nd[k] = false) : keepTo l nd (k + 1) = keepTo l nd k := by simp [keepTo, h, hb]
theorem keepTo_len (l : List Stp) (nd : List Bool) (k : Nat) : (keepTo l nd k).length = cntTo nd k := by
  induction k with
  | zero => rfl
  | succ k ih => simp only [keepTo, cntTo]; split <;> simp [ih]
theorem keepTo_mem {l : List Stp} {nd : List Bool} {k : Nat} (hk : k ≤ l.length) : ∀ t ∈ keepTo l nd k, t ∈ l := by
  induction k with
  | zero => intro t ht; cases ht
  | succ k ih =>
    intro t ht
    have hl : k < l.length := by omega
    simp only [keepTo] at ht
    split at ht
    · rcases List.mem_append.1 ht with ht | ht
      · exact ih (by omega) t ht
      · simp [hl] at ht; subst ht; exact List.getElem_mem hl
    · exact ih (by omega) t ht
def joined (r i : Nat) (q : List Stp) : List UInt8 := [82, 85, UInt8.ofNat r, UInt8.ofNat i, UInt8.ofNat (q.length % 256), UInt8.ofNat (q.length / 256)] ++ q.flatMap stB
theorem ext4 {s : ByteArray} {a : Nat} (h : a + 4 ≤ s.size) : s.extract a (a + 4) = ⟨[UInt8.ofNat (g s a), UInt8.ofNat (g s (a + 1)), UInt8.ofNat (g s (a + 2)), UInt8.ofNat (g s (a + 3))].toArray⟩ := by
  have h0 : a < s.size := by omega
  have h1 : a + 1 < s.size := by omega
  have h2 : a + 2 < s.size := by omega
  have h3 : a + 3 < s.size := by omega
  rw [g_in h0, g_in h1, g_in h2, g_in h3]
  simp only [UInt8.ofNat_toNat]
  apply ByteArray.ext
  rw [ByteArray.data_extract]
  apply Array.ext
  · have : s.data.size = s.size := rfl
    simp; omega
  · intro i h1' h2'
    have hi : i < 4 := by simpa using h2'
    match i, hi with
    | 0, _ => simp; rfl
    | 1, _ => simp; rfl
    | 2, _ => simp; rfl
    | 3, _ => simp; rfl
theorem app_bytes (x y : List UInt8) : (⟨x.toArray⟩ : ByteArray) ++ (⟨y.toArray⟩ : ByteArray) = ⟨(x ++ y).toArray⟩ := by
  apply ByteArray.ext
  rw [ByteArray.data_append]
  simp
theorem body_bytes {s : ByteArray} (nd : List Bool) (hs : s.size = 6 + 4 * nst s) : ∀ k, k ≤ nst s → bodyTo s nd k = ⟨((keepTo (steps s) nd k).flatMap stB).toArray⟩ := by
  intro k
  induction k with
  | zero => intro _; rfl
  | succ k ih =>
    intro hk
    have hl : k < (steps s).length := by rw [steps, stepsTo_len]; omega
    simp only [bodyTo, keepTo]
    split
    · rw [ih (by omega), show 10 + 4 * k = (6 + 4 * k) + 4 by omega, ext4 (by omega), app_bytes]
      congr 2
      simp [hl, steps_at, stepAt, stB]
    · exact ih (by omega)
theorem shr_joined {s : ByteArray} (hb : begunB s = true) : shr s = ⟨(joined (g s 2) (g s 3) (keepTo (steps s) (neededL (steps s)) (nst s))).toArray⟩ := by
  obtain ⟨h6, -, -, hs, -, -, -⟩ := nst_of hb
  have h0 : g s 0 = 82 ∧ g s 1 = 85 := by simp [begunB] at hb; omega
  unfold shr joined
  rw [body_bytes _ hs _ (Nat.le_refl _), show s.extract 0 4 = s.extract 0 (0 + 4) by rfl, ext4 (by omega), keepTo_len, h0.1, show g s (0 + 1) = 85 from h0.2]
  rw [show (⟨#[UInt8.ofNat (cntTo (neededL (steps s)) (nst s) % 256), UInt8.ofNat (cntTo (neededL (steps s)) (nst s) / 256)]⟩ : ByteArray) = ⟨[UInt8.ofNat (cntTo (neededL (steps s)) (nst s) % 256), UInt8.ofNat (cntTo (neededL (steps s)) (nst s) / 256)].toArray⟩ by rfl, app_bytes, app_bytes]
  rfl
end Go.Proofs.YtmnfndpbblpjiaaGreatDoor.Pu
