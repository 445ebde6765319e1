/- Steps in memory. -/
import Derived.Test.YtmnfndpbblpjiaaGreatDoorBase
import Derived.Test.YtmnfndpbblpjiaaGreatDoorPv
namespace Go.Proofs.YtmnfndpbblpjiaaGreatDoor
open Go.RowKit Pu

theorem Tryz.info71 : (Tryz.prog.info? 114).map (fun i => (i.zero, i.size, i.bytes)) = some (some (.agg #[.int .i64 0, .int .i64 0, .int .i64 0, .int .i64 0]), 4, 32) := by kernel_rfl
def tcells (t : Stp) : List Value := [.int .i64 t.op, .int .i64 t.x, .int .i64 t.y, .int .i64 t.z]
def tcellsOf (l : List Stp) : List Value := l.flatMap tcells
theorem tcellsOf_snoc (q : List Stp) (t : Stp) : tcellsOf q ++ tcells t = tcellsOf (q ++ [t]) := by simp [tcellsOf]
theorem tcellsOf_at (q : List Stp) (j i : Nat) (hj : j < q.length) (hi : i < 4) : (tcellsOf q)[j * 4 + i]? = (tcells q[j])[i]? := by
  induction q generalizing j with
  | nil => simp at hj
  | cons t q ih =>
    cases j with
    | zero =>
      simp only [tcellsOf, List.flatMap_cons, Nat.zero_mul, Nat.zero_add, List.getElem_cons_zero]
      rw [List.getElem?_append_left (by simpa [tcells] using hi)]
    | succ j =>
      have := ih j (by simpa using hj)
      simp only [tcellsOf, List.flatMap_cons, List.getElem_cons_succ] at *
      rw [List.getElem?_append_right (by simp [tcells]; omega), ← this]
      congr 1
      simp [tcells]; omega
def TLst (w : World) (base : Nat) (v : Value) (l : List Stp) : Prop := w.ownsRow base 114 4 v l.length (tcellsOf l)
theorem TLst.cell {w : World} {base : Nat} {ao : Option Addr} {cap : Nat} {l : List Stp} (h : TLst w base (.slice ao l.length cap) l) {j : Nat} (hj : j < l.length) :
    ∃ gb, ao = some ⟨gb, 0, none⟩ ∧ w.cell? ⟨gb, j * 4, none⟩ = some (.int .i64 l[j].op) ∧ w.cell? ⟨gb, j * 4 + 1, none⟩ = some (.int .i64 l[j].x) ∧ w.cell? ⟨gb, j * 4 + 2, none⟩ = some (.int .i64 l[j].y) ∧ w.cell? ⟨gb, j * 4 + 3, none⟩ = some (.int .i64 l[j].z) := by
  unfold TLst at h
  obtain ⟨gb, rfl, h0⟩ := owns_cell h (j := j * 4 + 0) (by omega)
  have h1 := h.cellAt (j * 4 + 1) (by omega)
  have h2 := h.cellAt (j * 4 + 2) (by omega)
  have h3 := h.cellAt (j * 4 + 3) (by omega)
  rw [tcellsOf_at l j _ hj (by omega)] at h0 h1 h2 h3
  exact ⟨gb, rfl, by simpa [tcells] using h0, by simpa [tcells] using h1, by simpa [tcells] using h2, by simpa [tcells] using h3⟩
theorem TLst.mod {w w' : World} {base : Nat} {v : Value} {l : List Stp} (h : TLst w base v l) (hm : Mod (fun _ => False) w w') : TLst w' base v l := owns_mod h hm (fun _ _ f => f)

end Go.Proofs.YtmnfndpbblpjiaaGreatDoor
