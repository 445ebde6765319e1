/- A whole block's value loaded, a whole value stored, where a walk stands at the operation. -/
import Derived.Deep.WholeRow
import Derived.Deep.MidRow
import Derived.Deep.RegionHeld3
import Derived.Deep.AppendLies
import Derived.BigRegion
import Derived.Test.YtmnfndpbblpjiabGreatDoorZb01
import Derived.Test.YtmnfndpbblpjiabGreatDoorZb10
import Derived.Test.YtmnfndpbblpjiabGreatDoorZb02
namespace Go.Proofs.YtmnfndpbblpjiabGreatDoor
open Go.RowKit

theorem wpList_load_row {P : Program} {ops : Array Oper} {rest : List Oper} {op : Oper} {a : Act} {w : World} {Q : Exit → Act → World → Prop} (hgd : op.guard = none) (ty : TypeId) (x : Operand) (ho : op.op = .load ty x)
    (b : Nat) (hx : a.eval x = .pointer (some ⟨b, 0, none⟩)) (C : Array Value) (t : TypeId) (fr : Nat × Nat) (hb : w.heap[b]? = some (.cells C t fr)) (d : TypeDesc)
    (hu : P.underlying ty = some d) (hd : d.isRow = true) (hi : (P.info? ty).map (·.size) = some C.size)
    (h : wpList P ops Q rest (a.put op.dst (.agg C)) w) : wpList P ops Q (op :: rest) a w :=
  wpList_plain hgd fun _ hK => by
    have hl := run_loadVar_row w b t ty C fr d hb hu (by cases d <;> simp_all [TypeDesc.isRow]) hi
    unfold Oper.wp execOp
    simp only [ho, hx, Instr.loadAt, Instr.sureAddr, Sem.run_bind, Sem.run_pure, Result.andThen_ok, hl]
    exact hK _ _ h
theorem wpList_store_row {P : Program} {ops : Array Oper} {rest : List Oper} {op : Oper} {a : Act} {w : World} {Q : Exit → Act → World → Prop} (hgd : op.guard = none) (ty : TypeId) (x y : Operand) (ho : op.op = .store ty x y)
    (b : Nat) (C C' : Array Value) (t : TypeId) (hx : a.eval x = .pointer (some ⟨b, 0, none⟩)) (hy : a.eval y = .agg C') (hb : w.heap[b]? = some (.cells C t (0, 0)))
    (hi : (P.info? ty).map (·.size) = some C'.size) (hs : C.size = C'.size) (h1 : C'.all (·.oneCell') = true)
    (h : wpList P ops Q rest (a.put op.dst undef) (w.setRow b C')) : wpList P ops Q (op :: rest) a w :=
  wpList_plain hgd fun _ hK => by
    have hl := run_storeVar_row w b t ty C C' hb hi hs h1
    unfold Oper.wp execOp
    simp only [ho, hx, hy, Instr.storeAt, Instr.sureAddr, Sem.run_bind, Sem.run_pure, Result.andThen_ok, hl]
    exact hK _ _ h
end Go.Proofs.YtmnfndpbblpjiabGreatDoor

/- The program's stepFits. -/
namespace Go.Proofs.YtmnfndpbblpjiabGreatDoor
open Go.RowKit Pu

theorem marks_size {n : Nat} (h : n = 256) : (Tryz.prog.info? 98).map (·.size) = some n := by subst h; exact (zero_of_info Tryz.infoM).2
theorem cells4 {w : World} {b : Nat} {t : Stp} (h : w.heap[b]? = some (.cells #[.int .u8 t.op, .int .u8 t.x, .int .u8 t.y, .int .u8 t.z] 94 (0, 0))) :
    w.cell? ⟨b, 0, none⟩ = some (.int .u8 t.op) ∧ w.cell? ⟨b, 1, none⟩ = some (.int .u8 t.x) ∧ w.cell? ⟨b, 2, none⟩ = some (.int .u8 t.y) ∧ w.cell? ⟨b, 3, none⟩ = some (.int .u8 t.z) := by simp [World.cell?, h]
theorem cells3 {w : World} {b : Nat} {x y z : Value} {ty : TypeId} (h : w.heap[b]? = some (.cells #[x, y, z] ty (0, 0))) :
    w.cell? ⟨b, 0, none⟩ = some x ∧ w.cell? ⟨b, 1, none⟩ = some y ∧ w.cell? ⟨b, 2, none⟩ = some z := by simp [World.cell?, h]
theorem alloc2_at (w : World) (o1 o2 : Obj) : ((w.alloc o1).alloc o2).heap[w.heap.size]? = some o1 ∧ ((w.alloc o1).alloc o2).heap[w.heap.size + 1]? = some o2 := by
  refine ⟨?_, by simpa using heap_alloc_new (w.alloc o1) o2⟩
  rw [Below.heap_alloc _ _ _ (by simp)]; exact heap_alloc_new w o1
theorem alloc3_at (w : World) (o1 o2 o3 : Obj) : (((w.alloc o1).alloc o2).alloc o3).heap[w.heap.size]? = some o1 ∧ (((w.alloc o1).alloc o2).alloc o3).heap[w.heap.size + 1]? = some o2 ∧ (((w.alloc o1).alloc o2).alloc o3).heap[w.heap.size + 2]? = some o3 := by
  refine ⟨?_, ?_, ?_⟩
  · rw [Below.heap_alloc _ _ _ (by simp; omega), Below.heap_alloc _ _ _ (by simp)]; exact heap_alloc_new w o1
  · rw [Below.heap_alloc _ _ _ (by simp)]; simpa using heap_alloc_new (w.alloc o1) o2
  · simpa using heap_alloc_new ((w.alloc o1).alloc o2) o3

set_option maxHeartbeats 800000 in
theorem stepfits_any (t : Stp) (regs ins : Nat) (ao : Option Addr) (n cap : Nat) (M : Nat → Bool) (w : World) (ht : Small t) (_hr : regs < 256) (hi : ins < 256) :
    Calls Tryz.prog 54 #[.agg #[.int .u8 regs, .int .u8 ins, .slice ao n cap], stV t, .agg (mcells M)] w fun e w' => e = .returned (.bool (stFit M t regs ins)) ∧ Mod (fun _ => False) w w' := by
  have hcs := mcells_size M
  have HF : Hid (stFit M t regs ins = (opFit t ins && decide (t.x < regs) && rdFit M t)) := rfl
  obtain ⟨a1, a2, a3⟩ := alloc3_at w (.cells #[.int .u8 regs, .int .u8 ins, .slice ao n cap] 63) (.cells #[.int .u8 t.op, .int .u8 t.x, .int .u8 t.y, .int .u8 t.z] 94) (.cells (mcells M) 98)
  have hm0 : Mod (fun _ => False) w (((w.alloc (.cells #[.int .u8 regs, .int .u8 ins, .slice ao n cap] 63)).alloc (.cells #[.int .u8 t.op, .int .u8 t.x, .int .u8 t.y, .int .u8 t.z] 94)).alloc (.cells (mcells M) 98)) := (((Mod.refl _ w).alloc _).alloc _).alloc _
  have hop := fun w => opfit_any t ins w ht hi
  have hrd := fun w => rdfit_any t M w ht
  have hsx := ht.2.1
  generalize mcells M = C at *
  generalize opFit t ins = bo at *
  generalize rdFit M t = br at *
  generalize stFit M t regs ins = bs at *
  go_enter Tryz.func54, Tryz.ntmps54
  go_wp2_with fail
  refine (hop _).mono ?_
  rintro e w1 ⟨rfl, hm1⟩
  have b1 := hm1.keep a1 (fun f => f)
  have b2 := hm1.keep a2 (fun f => f)
  have b3 := hm1.keep a3 (fun f => f)
  obtain ⟨c0, c1, c2⟩ := cells3 b1
  obtain ⟨d0, d1, d2, d3⟩ := cells4 b2
  have hm := hm0.trans hm1
  clear a1 a2 a3 b1 b2 hm0 hm1 hop
  cases bo with
  | false =>
    have HR : Hid (bs = false) := show bs = false by rw [HF.out]; rfl
    go_wp2_with fail
    go_ret
    exact ⟨by rw [HR.out]; rfl, hm⟩
  | true =>
    by_cases hx : t.x < regs
    · have ix : ¬ (regs : Int) ≤ (t.x : Int) := by omega
      have HR : Hid (bs = br) := show bs = br by rw [HF.out]; simp [hx]
      go_wp2_with (refine wpList_load_row (by rfl) 98 _ (by rfl) _ (by rfl) C _ _ b3 _ Tryz.underlying98 (by rfl) (marks_size hcs) ?_)
      refine (hrd _).mono ?_
      rintro e w2 ⟨rfl, hm2⟩
      go_wp2_with fail
      go_ret
      exact ⟨by rw [HR.out]; rfl, hm.trans hm2⟩
    · have ix : (regs : Int) ≤ (t.x : Int) := by omega
      have HR : Hid (bs = false) := show bs = false by rw [HF.out]; simp [hx]
      go_wp2_with fail
      go_ret
      exact ⟨by rw [HR.out]; rfl, hm⟩
end Go.Proofs.YtmnfndpbblpjiabGreatDoor

/- The program's splitCode. -/
namespace Go.Proofs.YtmnfndpbblpjiabGreatDoor
open Go.RowKit Pu

theorem Tryz.infoSt : (Tryz.prog.info? 94).map (fun i => (i.zero, i.size, i.bytes)) = some (some (.agg #[.int .u8 0, .int .u8 0, .int .u8 0, .int .u8 0]), 4, 4) := by kernel_rfl
def pcells (t : Stp) : List Value := [.int .u8 t.op, .int .u8 t.x, .int .u8 t.y, .int .u8 t.z]
def pcellsOf (l : List Stp) : List Value := l.flatMap pcells
theorem pcellsOf_snoc (q : List Stp) (t : Stp) : pcellsOf q ++ pcells t = pcellsOf (q ++ [t]) := by simp [pcellsOf]
theorem pcellsOf_at (q : List Stp) (j i : Nat) (hj : j < q.length) (hi : i < 4) : (pcellsOf q)[j * 4 + i]? = (pcells q[j])[i]? := by
  induction q generalizing j with
  | nil => simp at hj
  | cons t q ih =>
    cases j with
    | zero =>
      simp only [pcellsOf, List.flatMap_cons, Nat.zero_mul, Nat.zero_add, List.getElem_cons_zero]
      rw [List.getElem?_append_left (by simpa [pcells] using hi)]
    | succ j =>
      have := ih j (by simpa using hj)
      simp only [pcellsOf, List.flatMap_cons, List.getElem_cons_succ] at *
      rw [List.getElem?_append_right (by simp [pcells]; omega), ← this]
      congr 1
      simp [pcells]; omega
def PLst (w : World) (base : Nat) (v : Value) (l : List Stp) : Prop := w.ownsRow base 94 4 v l.length (pcellsOf l)
theorem PLst.cell {w : World} {base : Nat} {ao : Option Addr} {cap : Nat} {l : List Stp} (h : PLst w base (.slice ao l.length cap) l) {j : Nat} (hj : j < l.length) :
    ∃ gb, ao = some ⟨gb, 0, none⟩ ∧ w.cell? ⟨gb, j * 4, none⟩ = some (.int .u8 l[j].op) ∧ w.cell? ⟨gb, j * 4 + 1, none⟩ = some (.int .u8 l[j].x) ∧ w.cell? ⟨gb, j * 4 + 2, none⟩ = some (.int .u8 l[j].y) ∧ w.cell? ⟨gb, j * 4 + 3, none⟩ = some (.int .u8 l[j].z) := by
  unfold PLst at h
  obtain ⟨gb, rfl, h0⟩ := owns_cell h (j := j * 4 + 0) (by omega)
  have h1 := h.cellAt (j * 4 + 1) (by omega)
  have h2 := h.cellAt (j * 4 + 2) (by omega)
  have h3 := h.cellAt (j * 4 + 3) (by omega)
  rw [pcellsOf_at l j _ hj (by omega)] at h0 h1 h2 h3
  exact ⟨gb, rfl, by simpa [pcells] using h0, by simpa [pcells] using h1, by simpa [pcells] using h2, by simpa [pcells] using h3⟩
theorem PLst.mod {w w' : World} {base : Nat} {v : Value} {l : List Stp} (h : PLst w base v l) (hm : Mod (fun _ => False) w w') : PLst w' base v l := owns_mod h hm (fun _ _ f => f)
theorem PLst.low {w : World} {base base' : Nat} {v : Value} {l : List Stp} (h : PLst w base v l) (hb : base' ≤ base) : PLst w base' v l := owns_base h hb

theorem bne_t {c m : Nat} (h : ¬ c = m) : ((c : Int) != (m : Int)) = true := by simp; omega
theorem bne_f {c m : Nat} (h : c = m) : ((c : Int) != (m : Int)) = false := by subst h; simp
/-- The parts of a code, as the program has them. -/
def SplitEnd (s : ByteArray) (w w' : World) (e : Ending) : Prop :=
  (begunB s = false ∧ e = .returned (.tuple #[.agg #[.int .u8 0, .int .u8 0, .slice none 0 0], .bool false])) ∨
  (begunB s = true ∧ ∃ v, e = .returned (.tuple #[.agg #[.int .u8 (g s 2), .int .u8 (g s 3), v], .bool true]) ∧ PLst w' w.heap.size v (steps s))

set_option maxHeartbeats 1600000 in
set_option maxRecDepth 100000 in
theorem split_bad6 (s : ByteArray) (w : World) (hs : s.size < 6) : Calls Tryz.prog 53 #[.string s] w fun e w' => SplitEnd s w w' e ∧ Mod (fun _ => False) w w' := by
  have HR : Hid (begunB s = false) := show begunB s = false by simp [begunB, show ¬ 6 ≤ s.size by omega]
  have i6 : (s.size : Int) < 6 := by omega
  go_enter Tryz.func53, Tryz.ntmps53
  go_wp2_with fail
  exact bodyPost_ret (v := .tuple #[.agg #[.int .u8 0, .int .u8 0, .slice none 0 0], .bool false]) (by simp [results, Tryz.results53, go_sem]) rfl ⟨.inl ⟨HR.out, rfl⟩, (Mod.refl _ w).alloc _⟩
set_option maxHeartbeats 1600000 in
set_option maxRecDepth 100000 in
theorem split_bad0 (s : ByteArray) (w : World) (h6 : 6 ≤ s.size) (hn : g s 0 ≠ 82) (hs : s.size ≤ 8006) : Calls Tryz.prog 53 #[.string s] w fun e w' => SplitEnd s w w' e ∧ Mod (fun _ => False) w w' := by
  have HR : Hid (begunB s = false) := show begunB s = false by simp [begunB, hn]
  have h0 : 0 < s.size := by omega
  have i6 : ¬ (s.size : Int) < 6 := by omega
  have b0 : (((s[0]'h0).toNat : Int) != 82) = true := bne_t (m := 82) (by rw [g_in h0] at hn; exact hn)
  clear hn
  go_enter Tryz.func53, Tryz.ntmps53
  go_wp2_with fail
  exact bodyPost_ret (v := .tuple #[.agg #[.int .u8 0, .int .u8 0, .slice none 0 0], .bool false]) (by simp [results, Tryz.results53, go_sem]) rfl ⟨.inl ⟨HR.out, rfl⟩, (Mod.refl _ w).alloc _⟩
set_option maxHeartbeats 1600000 in
set_option maxRecDepth 100000 in
theorem split_bad1 (s : ByteArray) (w : World) (h6 : 6 ≤ s.size) (hn0 : g s 0 = 82) (hn : g s 1 ≠ 85) (hs : s.size ≤ 8006) : Calls Tryz.prog 53 #[.string s] w fun e w' => SplitEnd s w w' e ∧ Mod (fun _ => False) w w' := by
  have HR : Hid (begunB s = false) := show begunB s = false by simp [begunB, hn]
  have h0 : 0 < s.size := by omega
  have h1 : 1 < s.size := by omega
  have i6 : ¬ (s.size : Int) < 6 := by omega
  have b0 : (((s[0]'h0).toNat : Int) != 82) = false := bne_f (m := 82) (by rw [g_in h0] at hn0; exact hn0)
  have b1 : (((s[1]'h1).toNat : Int) != 85) = true := bne_t (m := 85) (by rw [g_in h1] at hn; exact hn)
  clear hn hn0
  go_enter Tryz.func53, Tryz.ntmps53
  go_wp2_with fail
  exact bodyPost_ret (v := .tuple #[.agg #[.int .u8 0, .int .u8 0, .slice none 0 0], .bool false]) (by simp [results, Tryz.results53, go_sem]) rfl ⟨.inl ⟨HR.out, rfl⟩, (Mod.refl _ w).alloc _⟩
end Go.Proofs.YtmnfndpbblpjiabGreatDoor

/- The document's steps of a code; who sets a register; what a step reads; what is proper. -/
namespace Go.Proofs.YtmnfndpbblpjiabGreatDoor
open Go.RowKit Pu

theorem index_in (s : ByteArray) (u : World) (k : Nat) (hk : k < s.size) (i : Int) (hi : i = (k : Int)) : (Instr.index 9 (.string s) (.int .i64 i)).run Tryz.prog u = .ok (.int .u8 s[k].toNat) u := by
  subst hi
  rw [run_index_string u 9 s .i64 (k : Int) Tryz.underlying9]
  simp [hk]

theorem index_p0 (s : ByteArray) (u : World) (k : Nat) (hk : k < s.size) : (Instr.index 9 (.string s) (.int .i64 (k : Int))).run Tryz.prog u = .ok (.int .u8 s[k].toNat) u := index_in s u k hk _ rfl
theorem index_p1 (s : ByteArray) (u : World) (k : Nat) (hk : k + 1 < s.size) : (Instr.index 9 (.string s) (.int .i64 ((k : Int) + 1))).run Tryz.prog u = .ok (.int .u8 s[k + 1].toNat) u := index_in s u _ hk _ (by omega)
theorem index_p2 (s : ByteArray) (u : World) (k : Nat) (hk : k + 2 < s.size) : (Instr.index 9 (.string s) (.int .i64 ((k : Int) + 2))).run Tryz.prog u = .ok (.int .u8 s[k + 2].toNat) u := index_in s u _ hk _ (by omega)
theorem index_p3 (s : ByteArray) (u : World) (k : Nat) (hk : k + 3 < s.size) : (Instr.index 9 (.string s) (.int .i64 ((k : Int) + 3))).run Tryz.prog u = .ok (.int .u8 s[k + 3].toNat) u := index_in s u _ hk _ (by omega)
theorem wrap_n {n : Int} (h0 : 0 ≤ n) (h : n ≤ 1000000000) : IntKind.i64.wrap n = n := by
  have : (Lit.int .i64 n).wf = true := by simp [Lit.wf, IntKind.min, IntKind.max, IntKind.signed, IntKind.bits]; omega
  simp [IntKind.wrap, IntKind.signed, IntKind.bits]; omega
theorem wrap_b (b : UInt8) : IntKind.i64.wrap (b.toNat : Int) = (b.toNat : Int) := wrap_n (by omega) (by have := b.toNat_lt; omega)
theorem wrap_p1 (k : Nat) (h : k ≤ 100000) : IntKind.i64.wrap ((k : Int) + 1) = (k : Int) + 1 := wrap_n (by omega) (by omega)
theorem wrap_p2 (k : Nat) (h : k ≤ 100000) : IntKind.i64.wrap ((k : Int) + 2) = (k : Int) + 2 := wrap_n (by omega) (by omega)
theorem wrap_p3 (k : Nat) (h : k ≤ 100000) : IntKind.i64.wrap ((k : Int) + 3) = (k : Int) + 3 := wrap_n (by omega) (by omega)
attribute [local go_sem] index_p0 index_p1 index_p2 index_p3
attribute [local go_sem] wrap_b wrap_p1 wrap_p2 wrap_p3

set_option maxHeartbeats 3200000 in
set_option maxRecDepth 100000 in
theorem steps_any (s : ByteArray) (w : World) (hs : s.size ≤ 8006) :
    Calls Tryz.prog 66 #[.string s] w fun e w' => Mod (fun _ => False) w w' ∧ ∃ v, e = .returned v ∧ TLst w' w.heap.size v (steps s) := by
  obtain ⟨i0, hi, hz0, hz1, hz2⟩ := info_parts Tryz.info71
  go_enter Tryz.func66, Tryz.ntmps66
  go_wp2_with fail
  go_loopw [3, 4] (fun v i wr => ∃ k j : Nat, k ≤ nst s ∧ Hid (j = 6 + 4 * k) ∧ i = .int .i64 j ∧ TLst wr w.heap.size v (stepsTo s k) ∧ Mod (fun _ => False) w wr) (fun _ i _ => s.size - (intOf i).toNat)
  case atStart => exact ⟨0, 6, by omega, rfl, rfl, World.ownsRow_nil _ _ _ _, Mod.refl _ _⟩
  case round =>
    obtain ⟨k, j, hk, HJ, rfl, hL, hm⟩ := hrel
    have hsz := hm.size
    unfold TLst at hL
    rw [stepsTo_len] at hL
    have hn1 : 4 * nst s ≤ s.size - 6 := by unfold nst; omega
    have hn2 : s.size - 6 < 4 * nst s + 4 := by unfold nst; omega
    have hj : 4 * k ≤ j := by have := HJ.out; omega
    have hj2 : j ≤ 4 * k + 6 := by have := HJ.out; omega
    obtain ⟨ao, cap, rfl, -⟩ := owns_form hL
    by_cases hlt : k < nst s
    · have h3 : j + 3 < s.size := by have := HJ.out; omega
      have h0 : j < s.size := by omega
      have h1 : j + 1 < s.size := by omega
      have h2 : j + 2 < s.size := by omega
      have HT : Hid (tcells (stepAt s k) = [.int .i64 s[j].toNat, .int .i64 s[j + 1].toNat, .int .i64 s[j + 2].toNat, .int .i64 s[j + 3].toNat]) := show tcells (stepAt s k) = [.int .i64 s[j].toNat, .int .i64 s[j + 1].toNat, .int .i64 s[j + 2].toNat, .int .i64 s[j + 3].toNat] by
        rw [← g_in h0, ← g_in h1, ← g_in h2, ← g_in h3, HJ.out]; rfl
      have i0a : (0 : Int) ≤ (j : Int) := by omega
      have i0b : (j : Int) < (s.size : Int) := by omega
      have i1b : (j : Int) + 1 < (s.size : Int) := by omega
      have i2b : (j : Int) + 2 < (s.size : Int) := by omega
      have i3b : (j : Int) + 3 < (s.size : Int) := by omega
      have i1a : (0 : Int) ≤ (j : Int) + 1 := by omega
      have i2a : (0 : Int) ≤ (j : Int) + 2 := by omega
      have i3a : (0 : Int) ≤ (j : Int) + 3 := by omega
      have hjb : j ≤ 100000 := by omega
      clear hn1 hn2
      go_wp2_with fail
      go_region_held3 (fun _ => True) (trivial)
        ((refine step_append_lies _ (by rfl) _ _ _ (by rfl) w.heap.size 152 i0 _ 4 32 Tryz.underlying108 hi hz0 hz1 hz2 rfl (by omega) _ k _ (by rfl) ((hL.alloc _).drew) ⟨wr.heap.size, 0, none⟩ 1 1 [.int .i64 s[j].toNat, .int .i64 s[j + 1].toNat, .int .i64 s[j + 2].toNat, .int .i64 s[j + 3].toNat] (by rfl) (by rfl) (World.news_of_block (cs := #[.int .i64 s[j].toNat, .int .i64 s[j + 1].toNat, .int .i64 s[j + 2].toNat, .int .i64 s[j + 3].toNat]) (t := 152) (fr := (0, 0)) (heap_alloc_new wr _)) (by simp [Value.oneCell']) (by omega) (by unfold maxLen; omega) (by omega) (by simp; omega) (wr.heap.size + 1) (by simp) ?_; intro gg cap' w1 hown1 hgrow hat hgl))
      all_goals
        have hg2 : Mod (fun q => w.heap.size ≤ q) wr w1 := ((Mod.refl _ wr).alloc _).drew.grown hgrow (fun q hq _ => (hL.lt q hq).1)
        have hm1 : Mod (fun _ => False) w w1 := ⟨hg2.os.trans hm.os, hg2.tape.trans hm.tape, hg2.output.trans hm.output, Nat.le_trans hm.size hg2.size, fun i hi _ => (hg2.block i (by omega) (by omega)).trans (hm.block i hi (fun f => f))⟩
        have hL1 : TLst w1 w.heap.size (.slice (some ⟨gg, 0, none⟩) (k + 1) cap') (stepsTo s (k + 1)) := by unfold TLst; rw [stepsTo_len, stepsTo_succ, ← tcellsOf_snoc, HT.out]; exact hown1
        clear hown1 hgrow hat hgl hg2 hL hm
        go_wp2_with fail
        go_roundw
        case rel => exact ⟨k + 1, j + 4, by omega, show j + 4 = 6 + 4 * (k + 1) by have := HJ.out; omega, by go_num, hL1, hm1⟩
        case measure => simp [intOf]; omega
    · have hks : k = nst s := by omega
      have hjs : s.size ≤ j + 3 := by have := HJ.out; omega
      subst hks
      go_wp2_with fail
      go_ret
      exact ⟨hm, _, rfl, by unfold TLst; rw [steps, stepsTo_len]; exact hL⟩
end Go.Proofs.YtmnfndpbblpjiabGreatDoor

/- The program's splitCode, behind 'RU'. -/
namespace Go.Proofs.YtmnfndpbblpjiabGreatDoor
open Go.RowKit Pu
attribute [local go_sem] wrap_b

set_option maxHeartbeats 3200000 in
set_option maxRecDepth 100000 in
theorem split_bad2 (s : ByteArray) (w : World) (h6 : 6 ≤ s.size) (hn0 : g s 0 = 82) (hn1 : g s 1 = 85) (hn : ¬ (1 ≤ g s 2 ∧ g s 2 ≤ 128 ∧ g s 3 ≤ 32)) (hs : s.size ≤ 8006) : Calls Tryz.prog 53 #[.string s] w fun e w' => SplitEnd s w w' e ∧ Mod (fun _ => False) w w' := by
  have HR : Hid (begunB s = false) := show begunB s = false by
    cases h : begunB s with
    | false => rfl
    | true => exact absurd ⟨(nst_of h).2.2.2.2.1, (nst_of h).2.2.2.2.2.1, (nst_of h).2.2.2.2.2.2⟩ hn
  have h0 : 0 < s.size := by omega
  have h1 : 1 < s.size := by omega
  have h2 : 2 < s.size := by omega
  have h3 : 3 < s.size := by omega
  have i6 : ¬ (s.size : Int) < 6 := by omega
  have b0 : (((s[0]'h0).toNat : Int) != 82) = false := bne_f (m := 82) (by rw [g_in h0] at hn0; exact hn0)
  have b1 : (((s[1]'h1).toNat : Int) != 85) = false := bne_f (m := 85) (by rw [g_in h1] at hn1; exact hn1)
  have j2 : (2 : Int) < (s.size : Int) := by omega
  have j3 : (3 : Int) < (s.size : Int) := by omega
  have l2 := (s[2]'h2).toNat_lt
  have l3 := (s[3]'h3).toNat_lt
  clear hn0 hn1
  rw [g_in h2, g_in h3] at hn
  by_cases ha : (s[2]'h2).toNat < 1
  · have q2 : ((s[2]'h2).toNat : Int) < 1 := by omega
    clear hn
    go_enter Tryz.func53, Tryz.ntmps53
    go_wp2_with fail
    go_region
    go_wp2_with fail
    exact bodyPost_ret (v := .tuple #[.agg #[.int .u8 0, .int .u8 0, .slice none 0 0], .bool false]) (by simp [results, Tryz.results53, go_sem]) rfl ⟨.inl ⟨HR.out, rfl⟩, (((Mod.refl _ w).alloc _).alloc _).drew⟩
  · have q2 : ¬ ((s[2]'h2).toNat : Int) < 1 := by omega
    by_cases hb : 128 < (s[2]'h2).toNat
    · have q3 : (128 : Int) < ((s[2]'h2).toNat : Int) := by omega
      clear hn
      go_enter Tryz.func53, Tryz.ntmps53
      go_wp2_with fail
      go_region
      go_wp2_with fail
      exact bodyPost_ret (v := .tuple #[.agg #[.int .u8 0, .int .u8 0, .slice none 0 0], .bool false]) (by simp [results, Tryz.results53, go_sem]) rfl ⟨.inl ⟨HR.out, rfl⟩, (((Mod.refl _ w).alloc _).alloc _).drew⟩
    · have q3 : ¬ (128 : Int) < ((s[2]'h2).toNat : Int) := by omega
      have q4 : (32 : Int) < ((s[3]'h3).toNat : Int) := by omega
      clear hn
      go_enter Tryz.func53, Tryz.ntmps53
      go_wp2_with fail
      go_region
      go_wp2_with fail
      exact bodyPost_ret (v := .tuple #[.agg #[.int .u8 0, .int .u8 0, .slice none 0 0], .bool false]) (by simp [results, Tryz.results53, go_sem]) rfl ⟨.inl ⟨HR.out, rfl⟩, (((Mod.refl _ w).alloc _).alloc _).drew⟩
set_option maxHeartbeats 3200000 in
set_option maxRecDepth 100000 in
theorem split_bad3 (s : ByteArray) (w : World) (h6 : 6 ≤ s.size) (hn0 : g s 0 = 82) (hn1 : g s 1 = 85) (ha : 1 ≤ g s 2) (hb : g s 2 ≤ 128) (hc : g s 3 ≤ 32) (hn : 2000 < g s 5 * 256 + g s 4) (hs : s.size ≤ 8006) : Calls Tryz.prog 53 #[.string s] w fun e w' => SplitEnd s w w' e ∧ Mod (fun _ => False) w w' := by
  have HR : Hid (begunB s = false) := show begunB s = false by
    cases h : begunB s with
    | false => rfl
    | true => have := nst_of h; omega
  have h0 : 0 < s.size := by omega
  have h1 : 1 < s.size := by omega
  have h2 : 2 < s.size := by omega
  have h3 : 3 < s.size := by omega
  have i6 : ¬ (s.size : Int) < 6 := by omega
  have b0 : (((s[0]'h0).toNat : Int) != 82) = false := bne_f (m := 82) (by rw [g_in h0] at hn0; exact hn0)
  have b1 : (((s[1]'h1).toNat : Int) != 85) = false := bne_f (m := 85) (by rw [g_in h1] at hn1; exact hn1)
  have j2 : (2 : Int) < (s.size : Int) := by omega
  have j3 : (3 : Int) < (s.size : Int) := by omega
  have l2 := (s[2]'h2).toNat_lt
  have l3 := (s[3]'h3).toNat_lt
  clear hn0 hn1
  have h4 : 4 < s.size := by omega
  have h5 : 5 < s.size := by omega
  have j4 : (4 : Int) < (s.size : Int) := by omega
  have j5 : (5 : Int) < (s.size : Int) := by omega
  have l4 := (s[4]'h4).toNat_lt
  have l5 := (s[5]'h5).toNat_lt
  have q2 : ¬ ((s[2]'h2).toNat : Int) < 1 := by rw [g_in h2] at ha; omega
  have q3 : ¬ (128 : Int) < ((s[2]'h2).toNat : Int) := by rw [g_in h2] at hb; omega
  have q4 : ¬ (32 : Int) < ((s[3]'h3).toNat : Int) := by rw [g_in h3] at hc; omega
  have q5 : (2000 : Int) < ((s[4]'h4).toNat : Int) + 256 * ((s[5]'h5).toNat : Int) := by rw [g_in h4, g_in h5] at hn; omega
  clear hn ha hb hc
  go_enter Tryz.func53, Tryz.ntmps53
  go_wp2_with fail
  go_region
  go_wp2_with fail
  go_quiet (fail)
  go_wp2_with fail
  exact bodyPost_ret (v := .tuple #[.agg #[.int .u8 0, .int .u8 0, .slice none 0 0], .bool false]) (by simp [results, Tryz.results53, go_sem]) rfl ⟨.inl ⟨HR.out, rfl⟩, ((((((Mod.refl _ w).alloc _).alloc _).drewN _).setCell _ _ (fun h => absurd h (Nat.lt_irrefl _))).setCell _ _ (fun h => absurd h (Nat.lt_irrefl _))).setCell _ _ (fun h => absurd h (Nat.lt_irrefl _))⟩
set_option maxHeartbeats 3200000 in
set_option maxRecDepth 100000 in
theorem split_bad4 (s : ByteArray) (w : World) (h6 : 6 ≤ s.size) (hn0 : g s 0 = 82) (hn1 : g s 1 = 85) (ha : 1 ≤ g s 2) (hb : g s 2 ≤ 128) (hc : g s 3 ≤ 32) (hd : g s 5 * 256 + g s 4 ≤ 2000) (hn : s.size ≠ 6 + 4 * (g s 5 * 256 + g s 4)) (hs : s.size ≤ 8006) : Calls Tryz.prog 53 #[.string s] w fun e w' => SplitEnd s w w' e ∧ Mod (fun _ => False) w w' := by
  have HR : Hid (begunB s = false) := show begunB s = false by
    cases h : begunB s with
    | false => rfl
    | true => have := nst_of h; omega
  have h0 : 0 < s.size := by omega
  have h1 : 1 < s.size := by omega
  have h2 : 2 < s.size := by omega
  have h3 : 3 < s.size := by omega
  have i6 : ¬ (s.size : Int) < 6 := by omega
  have b0 : (((s[0]'h0).toNat : Int) != 82) = false := bne_f (m := 82) (by rw [g_in h0] at hn0; exact hn0)
  have b1 : (((s[1]'h1).toNat : Int) != 85) = false := bne_f (m := 85) (by rw [g_in h1] at hn1; exact hn1)
  have j2 : (2 : Int) < (s.size : Int) := by omega
  have j3 : (3 : Int) < (s.size : Int) := by omega
  have l2 := (s[2]'h2).toNat_lt
  have l3 := (s[3]'h3).toNat_lt
  clear hn0 hn1
  have h4 : 4 < s.size := by omega
  have h5 : 5 < s.size := by omega
  have j4 : (4 : Int) < (s.size : Int) := by omega
  have j5 : (5 : Int) < (s.size : Int) := by omega
  have l4 := (s[4]'h4).toNat_lt
  have l5 := (s[5]'h5).toNat_lt
  have q2 : ¬ ((s[2]'h2).toNat : Int) < 1 := by rw [g_in h2] at ha; omega
  have q3 : ¬ (128 : Int) < ((s[2]'h2).toNat : Int) := by rw [g_in h2] at hb; omega
  have q4 : ¬ (32 : Int) < ((s[3]'h3).toNat : Int) := by rw [g_in h3] at hc; omega
  have q5 : ¬ (2000 : Int) < ((s[4]'h4).toNat : Int) + 256 * ((s[5]'h5).toNat : Int) := by rw [g_in h4, g_in h5] at hd; omega
  have q6 : ((s.size : Int) != (6 : Int) + (4 : Int) * (((s[4]'h4).toNat : Int) + (256 : Int) * ((s[5]'h5).toNat : Int))) = true := by rw [g_in h4, g_in h5] at hn; simp; omega
  clear hn ha hb hc hd
  go_enter Tryz.func53, Tryz.ntmps53
  go_wp2_with fail
  go_region
  go_wp2_with fail
  go_quiet (fail)
  go_wp2_with fail
  exact bodyPost_ret (v := .tuple #[.agg #[.int .u8 0, .int .u8 0, .slice none 0 0], .bool false]) (by simp [results, Tryz.results53, go_sem]) rfl ⟨.inl ⟨HR.out, rfl⟩, ((((((Mod.refl _ w).alloc _).alloc _).drewN _).setCell _ _ (fun h => absurd h (Nat.lt_irrefl _))).setCell _ _ (fun h => absurd h (Nat.lt_irrefl _))).setCell _ _ (fun h => absurd h (Nat.lt_irrefl _))⟩
end Go.Proofs.YtmnfndpbblpjiabGreatDoor

/- The program's splitCode: a code that begins right. -/
namespace Go.Proofs.YtmnfndpbblpjiabGreatDoor
open Go.RowKit Pu
attribute [local go_sem] index_p0 index_p1 index_p2 index_p3
attribute [local go_sem] wrap_b wrap_p1 wrap_p2 wrap_p3

theorem set3_2 {w : World} {b : Nat} {x y z z' : Value} {ty : TypeId} (h : w.heap[b]? = some (.cells #[x, y, z] ty (0, 0))) : (w.setCell ⟨b, 2, none⟩ z').heap[b]? = some (.cells #[x, y, z'] ty (0, 0)) := by
  simp [World.setCell, Array.getElem?_modify, h]
theorem set3_0 {w : World} {b : Nat} {x y z z' : Value} {ty : TypeId} (h : w.heap[b]? = some (.cells #[x, y, z] ty (0, 0))) : (w.setCell ⟨b, 0, none⟩ z').heap[b]? = some (.cells #[z', y, z] ty (0, 0)) := by
  simp [World.setCell, Array.getElem?_modify, h]
theorem set3_1 {w : World} {b : Nat} {x y z z' : Value} {ty : TypeId} (h : w.heap[b]? = some (.cells #[x, y, z] ty (0, 0))) : (w.setCell ⟨b, 1, none⟩ z').heap[b]? = some (.cells #[x, z', z] ty (0, 0)) := by
  simp [World.setCell, Array.getElem?_modify, h]
def set3 (w : World) (b : Nat) (x y z : Value) : World := ((w.setCell ⟨b, 0, none⟩ x).setCell ⟨b, 1, none⟩ y).setCell ⟨b, 2, none⟩ z
theorem set3_own (w : World) (b : Nat) (x y z : Value) : Mod (fun q => q = b) w (set3 w b x y z) := by
  have h0 : Mod (fun q => q = b) w (w.setCell ⟨b, 0, none⟩ x) := (Mod.refl _ w).setCell ⟨b, 0, none⟩ x (fun _ => rfl)
  have h1 := h0.setCell ⟨b, 1, none⟩ y (fun _ => rfl)
  exact h1.setCell ⟨b, 2, none⟩ z (fun _ => rfl)
theorem set3_mod {p : Nat → Prop} {a w : World} (h : Mod p a w) (b : Nat) (x y z : Value) (hb : a.heap.size ≤ b) : Mod p a (set3 w b x y z) := by
  have h0 := h.setCell ⟨b, 0, none⟩ x (fun h => absurd h (Nat.not_lt.2 hb))
  have h1 := h0.setCell ⟨b, 1, none⟩ y (fun h => absurd h (Nat.not_lt.2 hb))
  exact h1.setCell ⟨b, 2, none⟩ z (fun h => absurd h (Nat.not_lt.2 hb))
theorem set3_at {w : World} {b : Nat} {x y z x' y' z' : Value} {ty : TypeId} (h : w.heap[b]? = some (.cells #[x, y, z] ty (0, 0))) : (set3 w b x' y' z').heap[b]? = some (.cells #[x', y', z'] ty (0, 0)) := set3_2 (set3_1 (set3_0 h))
theorem fz3 {w : World} {b : Nat} {C : Array Value} {ty : TypeId} (h : w.heap[b]? = some (.cells C ty (0, 0))) (i : Nat) : w.frozen? ⟨b, i, none⟩ = false := by simp [World.frozen?, h]

set_option maxHeartbeats 3200000 in
set_option maxRecDepth 100000 in
theorem split_ok (s : ByteArray) (w : World) (h6 : 6 ≤ s.size) (hn0 : g s 0 = 82) (hn1 : g s 1 = 85) (ha : 1 ≤ g s 2) (hb : g s 2 ≤ 128) (hc : g s 3 ≤ 32) (hd : g s 5 * 256 + g s 4 ≤ 2000) (hn : s.size = 6 + 4 * (g s 5 * 256 + g s 4)) (hs : s.size ≤ 8006) : Calls Tryz.prog 53 #[.string s] w fun e w' => SplitEnd s w w' e ∧ Mod (fun _ => False) w w' := by
  have HR : Hid (begunB s = true) := show begunB s = true by simp [begunB, h6, hn0, hn1, ha, hb, hc, hd]; exact hn
  have hns : nst s ≤ 2000 := (nst_of HR.out).2.2.1
  obtain ⟨i0, hi, hz0, hz1, hz2⟩ := info_parts Tryz.infoSt
  have h0 : 0 < s.size := by omega
  have h1 : 1 < s.size := by omega
  have h2 : 2 < s.size := by omega
  have h3 : 3 < s.size := by omega
  have i6 : ¬ (s.size : Int) < 6 := by omega
  have b0 : (((s[0]'h0).toNat : Int) != 82) = false := bne_f (m := 82) (by rw [g_in h0] at hn0; exact hn0)
  have b1 : (((s[1]'h1).toNat : Int) != 85) = false := bne_f (m := 85) (by rw [g_in h1] at hn1; exact hn1)
  have j2 : (2 : Int) < (s.size : Int) := by omega
  have j3 : (3 : Int) < (s.size : Int) := by omega
  have l2 := (s[2]'h2).toNat_lt
  have l3 := (s[3]'h3).toNat_lt
  clear hn0 hn1
  have h4 : 4 < s.size := by omega
  have h5 : 5 < s.size := by omega
  have j4 : (4 : Int) < (s.size : Int) := by omega
  have j5 : (5 : Int) < (s.size : Int) := by omega
  have l4 := (s[4]'h4).toNat_lt
  have l5 := (s[5]'h5).toNat_lt
  have q2 : ¬ ((s[2]'h2).toNat : Int) < 1 := by rw [g_in h2] at ha; omega
  have q3 : ¬ (128 : Int) < ((s[2]'h2).toNat : Int) := by rw [g_in h2] at hb; omega
  have q4 : ¬ (32 : Int) < ((s[3]'h3).toNat : Int) := by rw [g_in h3] at hc; omega
  have q5 : ¬ (2000 : Int) < ((s[4]'h4).toNat : Int) + 256 * ((s[5]'h5).toNat : Int) := by rw [g_in h4, g_in h5] at hd; omega
  have q6 : ((s.size : Int) != (6 : Int) + (4 : Int) * (((s[4]'h4).toNat : Int) + (256 : Int) * ((s[5]'h5).toNat : Int))) = false := by rw [g_in h4, g_in h5] at hn; simp; omega
  have HG2 : Hid (g s 2 = (s[2]'h2).toNat) := g_in h2
  have HG3 : Hid (g s 3 = (s[3]'h3).toNat) := g_in h3
  clear hn ha hb hc hd
  go_enter Tryz.func53, Tryz.ntmps53
  go_wp2_with fail
  go_region
  go_wp2_with fail
  go_quiet (fail)
  go_wp2_with fail
  go_loopw [6] (fun i wr => ∃ (k j : Nat) (v : Value), k ≤ nst s ∧ Hid (j = 6 + 4 * k) ∧ i = .int .i64 j ∧ wr.heap[w.heap.size]? = some (.cells #[.int .u8 0, .int .u8 0, .slice none 0 0] 63 (0, 0)) ∧ wr.heap[w.heap.size + 1]? = some (.cells #[.int .u8 (s[2]'h2).toNat, .int .u8 (s[3]'h3).toNat, v] 63 (0, 0)) ∧ PLst wr (w.heap.size + 2) v (stepsTo s k) ∧ Mod (fun _ => False) w wr) (fun i _ => s.size - (intOf i).toNat)
  case atStart => exact ⟨0, 6, .slice none 0 0, by omega, rfl, rfl, by simpa using (alloc2_at w _ _).1, by simpa using (alloc2_at w _ _).2, World.ownsRow_nil _ _ _ _, (((Mod.refl _ _).alloc _).alloc _).drewN _⟩
  case round =>
    obtain ⟨k, j, v, hk, HJ, rfl, hb0, hb1, hL, hm⟩ := hrel
    have hsz := hm.size
    unfold PLst at hL
    rw [stepsTo_len] at hL
    have hn1 : 4 * nst s ≤ s.size - 6 := by unfold nst; omega
    have hn2 : s.size - 6 < 4 * nst s + 4 := by unfold nst; omega
    have hj : 4 * k ≤ j := by have := HJ.out; omega
    have hj2 : j ≤ 4 * k + 6 := by have := HJ.out; omega
    obtain ⟨ao, cap, rfl, -⟩ := owns_form hL
    have hlt1 := lt_of_block hb1
    by_cases hlt : k < nst s
    · have k3 : j + 3 < s.size := by have := HJ.out; omega
      have k0 : j < s.size := by omega
      have k1 : j + 1 < s.size := by omega
      have k2 : j + 2 < s.size := by omega
      have HT : Hid (pcells (stepAt s k) = [.int .u8 s[j].toNat, .int .u8 s[j + 1].toNat, .int .u8 s[j + 2].toNat, .int .u8 s[j + 3].toNat]) := show pcells (stepAt s k) = [.int .u8 s[j].toNat, .int .u8 s[j + 1].toNat, .int .u8 s[j + 2].toNat, .int .u8 s[j + 3].toNat] by
        rw [← g_in k0, ← g_in k1, ← g_in k2, ← g_in k3, HJ.out]; rfl
      have i0a : (0 : Int) ≤ (j : Int) := by omega
      have i0b : (j : Int) < (s.size : Int) := by omega
      have i1b : (j : Int) + 1 < (s.size : Int) := by omega
      have i2b : (j : Int) + 2 < (s.size : Int) := by omega
      have i3b : (j : Int) + 3 < (s.size : Int) := by omega
      have i4b : (j : Int) + 4 ≤ (s.size : Int) := by omega
      have i1a : (0 : Int) ≤ (j : Int) + 1 := by omega
      have i2a : (0 : Int) ≤ (j : Int) + 2 := by omega
      have i3a : (0 : Int) ≤ (j : Int) + 3 := by omega
      have hjb : j ≤ 100000 := by omega
      obtain ⟨c0, c1, c2⟩ := cells3 hb1
      have f2 := fz3 hb1 2
      clear hn1 hn2
      go_wp2_with fail
      go_region
      have hL1 := (hL.alloc (.cells #[.int .u8 s[j].toNat, .int .u8 s[j + 1].toNat, .int .u8 s[j + 2].toNat, .int .u8 s[j + 3].toNat] 94)).drew
      go_wp2_with (at_builtin; refine wpList_append_own _ rfl _ _ 61 rfl (w.heap.size + 2) 94 i0 _ 4 4 Tryz.underlying61 hi hz0 hz1 hz2 rfl (by decide) _ _ _ rfl (hL1.alloc _) ⟨wr.heap.size + 1, 0, none⟩ 1 1 [.int .u8 s[j].toNat, .int .u8 s[j + 1].toNat, .int .u8 s[j + 2].toNat, .int .u8 s[j + 3].toNat] rfl rfl ?c1 ?c2 ?c3 ?c4 ?c5 ?_)
      case c1 => exact World.news_of_block (cs := #[.int .u8 s[j].toNat, .int .u8 s[j + 1].toNat, .int .u8 s[j + 2].toNat, .int .u8 s[j + 3].toNat]) (t := 94) (fr := (0, 0)) (alloc2_at wr _ _).2
      case c2 => simp [Value.oneCell']
      case c3 => unfold maxLen; omega
      case c4 => omega
      case c5 => simp; omega
      intro v' w4 hown4 hgrow _
      have hgm : Mod (fun i => w.heap.size + 2 ≤ i) wr w4 := ((((Mod.refl _ wr).alloc _).drew).alloc _).grown hgrow (fun i hi _ => (hL.lt i hi).1)
      have hb0' := hgm.keep hb0 (by omega)
      have hb1' := hgm.keep hb1 (by omega)
      have hm4 : Mod (fun _ => False) w w4 := ⟨hgm.os.trans hm.os, hgm.tape.trans hm.tape, hgm.output.trans hm.output, Nat.le_trans hm.size hgm.size, fun i hi _ => (hgm.block i (by omega) (by omega)).trans (hm.block i hi (fun f => f))⟩
      obtain ⟨ao', cap', rfl, -⟩ := owns_form hown4
      obtain ⟨d0, d1, d2⟩ := cells3 hb1'
      have f2' := fz3 hb1' 2
      have hown5 : PLst (w4.setCell ⟨w.heap.size + 1, 2, none⟩ (.slice ao' (k + 1) cap')) (w.heap.size + 2) (.slice ao' (k + 1) cap') (stepsTo s (k + 1)) := by
        unfold PLst; rw [stepsTo_len, stepsTo_succ, ← pcellsOf_snoc, HT.out]
        exact owns_mod hown4 ((Mod.refl (fun q => q = w.heap.size + 1) w4).setCell _ _ (fun _ => rfl)) (fun g h1 h2 => by omega)
      have HB0 : Hid ((w4.setCell ⟨w.heap.size + 1, 2, none⟩ (.slice ao' (k + 1) cap')).heap[w.heap.size]? = some (.cells #[.int .u8 0, .int .u8 0, .slice none 0 0] 63 (0, 0))) :=
        ((Mod.refl (fun q => q = w.heap.size + 1) w4).setCell _ _ (fun _ => rfl)).keep hb0' (by omega)
      have HB1 : Hid ((w4.setCell ⟨w.heap.size + 1, 2, none⟩ (.slice ao' (k + 1) cap')).heap[w.heap.size + 1]? = some (.cells #[.int .u8 (s[2]'h2).toNat, .int .u8 (s[3]'h3).toNat, .slice ao' (k + 1) cap'] 63 (0, 0))) := set3_2 (z' := .slice ao' (k + 1) cap') hb1'
      have hm5 : Mod (fun _ => False) w (w4.setCell ⟨w.heap.size + 1, 2, none⟩ (.slice ao' (k + 1) cap')) := hm4.setCell _ _ (fun h => absurd h (by simp))
      clear hown4 hgrow hgm hL hL1 hm hm4 hb0 hb1 hb0' hb1' c0 c1 c2 f2
      go_wp2_with fail
      go_roundw
      case rel => exact ⟨k + 1, j + 4, _, by omega, show j + 4 = 6 + 4 * (k + 1) by have := HJ.out; omega, by go_num, HB0.out, HB1.out, hown5, hm5⟩
      case measure => simp [intOf]; omega
    · have hks : k = nst s := by omega
      have hjs : s.size ≤ j + 3 := by have := HJ.out; omega
      subst hks
      obtain ⟨c0, c1, c2⟩ := cells3 hb1
      obtain ⟨d0, d1, d2⟩ := cells3 hb0
      have e0 := fz3 hb0 0
      have e1 := fz3 hb0 1
      have e2 := fz3 hb0 2
      have hL5 := owns_base (base' := w.heap.size) (owns_mod hL (set3_own wr w.heap.size (.int .u8 (s[2]'h2).toNat) (.int .u8 (s[3]'h3).toNat) (.slice ao (nst s) cap)) (fun g h1 h2 => by omega)) (by omega)
      have hm4 := set3_mod hm w.heap.size (.int .u8 (s[2]'h2).toNat) (.int .u8 (s[3]'h3).toNat) (.slice ao (nst s) cap) (Nat.le_refl _)
      have HC : Hid _ := cells3 (set3_at (x' := .int .u8 (s[2]'h2).toNat) (y' := .int .u8 (s[3]'h3).toNat) (z' := .slice ao (nst s) cap) hb0)
      have HE : Hid (SplitEnd s w (set3 wr w.heap.size (.int .u8 (s[2]'h2).toNat) (.int .u8 (s[3]'h3).toNat) (.slice ao (nst s) cap)) (.returned (.tuple #[.agg #[.int .u8 (s[2]'h2).toNat, .int .u8 (s[3]'h3).toNat, .slice ao (nst s) cap], .bool true]))) := .inr ⟨HR.out, .slice ao (nst s) cap, by rw [HG2.out, HG3.out], by unfold PLst; rw [steps, stepsTo_len]; exact hL5⟩
      clear hL5 hL
      go_wp2_with fail
      obtain ⟨g0, g1, g2⟩ := HC.out
      unfold set3 at g0 g1 g2
      exact bodyPost_ret (v := .tuple #[.agg #[.int .u8 (s[2]'h2).toNat, .int .u8 (s[3]'h3).toNat, .slice ao (nst s) cap], .bool true]) (by simp [results, Tryz.results53, go_sem, g0, g1, g2]) rfl ⟨HE.out, hm4⟩

theorem split_any (s : ByteArray) (w : World) (hs : s.size ≤ 8006) : Calls Tryz.prog 53 #[.string s] w fun e w' => SplitEnd s w w' e ∧ Mod (fun _ => False) w w' := by
  by_cases h6 : 6 ≤ s.size
  · by_cases n0 : g s 0 = 82
    · by_cases n1 : g s 1 = 85
      · by_cases n2 : 1 ≤ g s 2 ∧ g s 2 ≤ 128 ∧ g s 3 ≤ 32
        · by_cases n3 : g s 5 * 256 + g s 4 ≤ 2000
          · by_cases n4 : s.size = 6 + 4 * (g s 5 * 256 + g s 4)
            · exact split_ok s w h6 n0 n1 n2.1 n2.2.1 n2.2.2 n3 n4 hs
            · exact split_bad4 s w h6 n0 n1 n2.1 n2.2.1 n2.2.2 n3 n4 hs
          · exact split_bad3 s w h6 n0 n1 n2.1 n2.2.1 n2.2.2 (by omega) hs
        · exact split_bad2 s w h6 n0 n1 n2 hs
      · exact split_bad1 s w h6 n0 n1 hs
    · exact split_bad0 s w h6 n0 hs
  · exact split_bad6 s w (by omega)
end Go.Proofs.YtmnfndpbblpjiabGreatDoor
