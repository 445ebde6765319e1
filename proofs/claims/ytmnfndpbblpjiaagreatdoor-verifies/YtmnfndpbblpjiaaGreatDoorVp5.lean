/- The program's splitCode. -/
import Derived.Test.YtmnfndpbblpjiaaGreatDoorVp4
import Derived.Deep.RegionHeld3
import Derived.Deep.AppendLies
import Derived.BigRegion
namespace Go.Proofs.YtmnfndpbblpjiaaGreatDoor
open Go.RowKit Pu

theorem Tryz.infoSt : (Tryz.prog.info? 107).map (fun i => (i.zero, i.size, i.bytes)) = some (some (.agg #[.int .u8 0, .int .u8 0, .int .u8 0, .int .u8 0]), 4, 4) := by kernel_rfl
def pcells (t : Stp) : List Value := [.int .u8 t.op, .int .u8 t.x, .int .u8 t.y, .int .u8 t.z]
def pcellsOf (l : List Stp) : List Value := l.flatMap pcells
theorem pcellsOf_snoc (q : List Stp) (t : Stp) : pcellsOf q ++ pcells t = pcellsOf (q ++ [t]) := by simp [pcellsOf]
theorem pcellsOf_at (q : List Stp) (j i : Nat) (hj : j < q.length) (hi : i < 4) : (pcellsOf q)[j * 4 + i]? = (pcells q[j])[i]? := by
  induction q generalizing j with
  | nil => simp at hj
  | cons t q ih =>
    cases j with
    | zero =>
      simp only [pcellsOf, List.flatMap_cons, Nat.zero_mul, Nat.zero_add, List.getElem_cons_zero]
      rw [List.getElem?_append_left (by simpa [pcells] using hi)]
    | succ j =>
      have := ih j (by simpa using hj)
      simp only [pcellsOf, List.flatMap_cons, List.getElem_cons_succ] at *
      rw [List.getElem?_append_right (by simp [pcells]; omega), ← this]
      congr 1
      simp [pcells]; omega
def PLst (w : World) (base : Nat) (v : Value) (l : List Stp) : Prop := w.ownsRow base 107 4 v l.length (pcellsOf l)
theorem PLst.cell {w : World} {base : Nat} {ao : Option Addr} {cap : Nat} {l : List Stp} (h : PLst w base (.slice ao l.length cap) l) {j : Nat} (hj : j < l.length) :
    ∃ gb, ao = some ⟨gb, 0, none⟩ ∧ w.cell? ⟨gb, j * 4, none⟩ = some (.int .u8 l[j].op) ∧ w.cell? ⟨gb, j * 4 + 1, none⟩ = some (.int .u8 l[j].x) ∧ w.cell? ⟨gb, j * 4 + 2, none⟩ = some (.int .u8 l[j].y) ∧ w.cell? ⟨gb, j * 4 + 3, none⟩ = some (.int .u8 l[j].z) := by
  unfold PLst at h
  obtain ⟨gb, rfl, h0⟩ := owns_cell h (j := j * 4 + 0) (by omega)
  have h1 := h.cellAt (j * 4 + 1) (by omega)
  have h2 := h.cellAt (j * 4 + 2) (by omega)
  have h3 := h.cellAt (j * 4 + 3) (by omega)
  rw [pcellsOf_at l j _ hj (by omega)] at h0 h1 h2 h3
  exact ⟨gb, rfl, by simpa [pcells] using h0, by simpa [pcells] using h1, by simpa [pcells] using h2, by simpa [pcells] using h3⟩
theorem PLst.mod {w w' : World} {base : Nat} {v : Value} {l : List Stp} (h : PLst w base v l) (hm : Mod (fun _ => False) w w') : PLst w' base v l := owns_mod h hm (fun _ _ f => f)
theorem PLst.low {w : World} {base base' : Nat} {v : Value} {l : List Stp} (h : PLst w base v l) (hb : base' ≤ base) : PLst w base' v l := owns_base h hb

theorem bne_t {c m : Nat} (h : ¬ c = m) : ((c : Int) != (m : Int)) = true := by simp; omega
theorem bne_f {c m : Nat} (h : c = m) : ((c : Int) != (m : Int)) = false := by subst h; simp
/-- The parts of a code, as the program has them. -/
def SplitEnd (s : ByteArray) (w w' : World) (e : Ending) : Prop :=
  (begunB s = false ∧ e = .returned (.tuple #[.agg #[.int .u8 0, .int .u8 0, .slice none 0 0], .bool false])) ∨
  (begunB s = true ∧ ∃ v, e = .returned (.tuple #[.agg #[.int .u8 (g s 2), .int .u8 (g s 3), v], .bool true]) ∧ PLst w' w.heap.size v (steps s))

set_option maxHeartbeats 1600000 in
set_option maxRecDepth 100000 in
theorem split_bad6 (s : ByteArray) (w : World) (hs : s.size < 6) : Calls Tryz.prog 71 #[.string s] w fun e w' => SplitEnd s w w' e ∧ Mod (fun _ => False) w w' := by
  have HR : Hid (begunB s = false) := show begunB s = false by simp [begunB, show ¬ 6 ≤ s.size by omega]
  have i6 : (s.size : Int) < 6 := by omega
  go_enter Tryz.func71, Tryz.ntmps71
  go_wp2_with fail
  exact bodyPost_ret (v := .tuple #[.agg #[.int .u8 0, .int .u8 0, .slice none 0 0], .bool false]) (by simp [results, Tryz.results71, go_sem]) rfl ⟨.inl ⟨HR.out, rfl⟩, (Mod.refl _ w).alloc _⟩
set_option maxHeartbeats 1600000 in
set_option maxRecDepth 100000 in
theorem split_bad0 (s : ByteArray) (w : World) (h6 : 6 ≤ s.size) (hn : g s 0 ≠ 82) (hs : s.size ≤ 8006) : Calls Tryz.prog 71 #[.string s] w fun e w' => SplitEnd s w w' e ∧ Mod (fun _ => False) w w' := by
  have HR : Hid (begunB s = false) := show begunB s = false by simp [begunB, hn]
  have h0 : 0 < s.size := by omega
  have i6 : ¬ (s.size : Int) < 6 := by omega
  have b0 : (((s[0]'h0).toNat : Int) != 82) = true := bne_t (m := 82) (by rw [g_in h0] at hn; exact hn)
  clear hn
  go_enter Tryz.func71, Tryz.ntmps71
  go_wp2_with fail
  exact bodyPost_ret (v := .tuple #[.agg #[.int .u8 0, .int .u8 0, .slice none 0 0], .bool false]) (by simp [results, Tryz.results71, go_sem]) rfl ⟨.inl ⟨HR.out, rfl⟩, (Mod.refl _ w).alloc _⟩
set_option maxHeartbeats 1600000 in
set_option maxRecDepth 100000 in
theorem split_bad1 (s : ByteArray) (w : World) (h6 : 6 ≤ s.size) (hn0 : g s 0 = 82) (hn : g s 1 ≠ 85) (hs : s.size ≤ 8006) : Calls Tryz.prog 71 #[.string s] w fun e w' => SplitEnd s w w' e ∧ Mod (fun _ => False) w w' := by
  have HR : Hid (begunB s = false) := show begunB s = false by simp [begunB, hn]
  have h0 : 0 < s.size := by omega
  have h1 : 1 < s.size := by omega
  have i6 : ¬ (s.size : Int) < 6 := by omega
  have b0 : (((s[0]'h0).toNat : Int) != 82) = false := bne_f (m := 82) (by rw [g_in h0] at hn0; exact hn0)
  have b1 : (((s[1]'h1).toNat : Int) != 85) = true := bne_t (m := 85) (by rw [g_in h1] at hn; exact hn)
  clear hn hn0
  go_enter Tryz.func71, Tryz.ntmps71
  go_wp2_with fail
  exact bodyPost_ret (v := .tuple #[.agg #[.int .u8 0, .int .u8 0, .slice none 0 0], .bool false]) (by simp [results, Tryz.results71, go_sem]) rfl ⟨.inl ⟨HR.out, rfl⟩, (Mod.refl _ w).alloc _⟩
end Go.Proofs.YtmnfndpbblpjiaaGreatDoor
