/- The program's marks of registers; readsFit, stepFits. -/
import Derived.Deep.WholeRow
import Derived.Deep.MidRow
import Derived.Deep.RegionHeld3
import Derived.Deep.AppendLies
import Derived.BigRegion
import Derived.Test.YtmnfndpbblpjiaaDoorZd02
import Derived.Test.YtmnfndpbblpjiaaDoorZd01
namespace Go.Proofs.YtmnfndpbblpjiaaDoor
open Go.RowKit Pu

def mcells (M : Nat → Bool) : Array Value := Array.ofFn (n := 256) fun i => .bool (M i)
theorem mcells_size (M : Nat → Bool) : (mcells M).size = 256 := by simp [mcells]
theorem mcells_at (M : Nat → Bool) {r : Nat} (h : r < 256) : (mcells M)[r]? = some (.bool (M r)) := by simp [mcells, h]
theorem mcells_get (M : Nat → Bool) {r : Nat} (hr : r < 256) : ∀ h' : r < (mcells M).size, (mcells M)[r] = .bool (M r) := fun h' => by
  have := mcells_at M hr
  rw [Array.getElem?_eq_getElem h'] at this
  exact Option.some.inj this
theorem mcells_set (M : Nat → Bool) (r : Nat) (b : Bool) : (mcells M).setIfInBounds r (.bool b) = mcells (fun i => if i = r then b else M i) := by
  apply Array.ext
  · simp [mcells]
  · intro i h1 h2
    have hi : i < 256 := by simpa [mcells] using h2
    rw [Array.getElem_setIfInBounds (by simpa [mcells] using hi)]
    by_cases e : r = i
    · subst e; simp [mcells]
    · simp [mcells, e, show ¬ i = r from fun h => e h.symm]
theorem mcells_none : mcells (fun _ => false) = Array.replicate 256 (.bool false) := by
  apply Array.ext
  · simp [mcells]
  · intro i h1 h2; simp [mcells]
theorem mcells_one (M : Nat → Bool) : (mcells M).all (·.oneCell') = true := by
  rw [Array.all_eq_true_iff_forall_mem]
  intro v hv
  simp [mcells] at hv
  obtain ⟨i, rfl⟩ := hv
  rfl
theorem Tryd.infoM : (Tryd.prog.info? 50).map (fun i => (i.zero, i.size)) = some (some (.agg (Array.replicate 256 (.bool false))), 256) := by kernel_rfl

set_option maxHeartbeats 1600000 in
theorem rdfit_any (t : Stp) (M : Nat → Bool) (w : World) (ht : Small t) : Calls Tryd.prog 29 #[stV t, .agg (mcells M)] w fun e w' => e = .returned (.bool (rdFit M t)) ∧ Mod (fun _ => False) w w' := by
  obtain ⟨op, x, y, z⟩ := t
  obtain ⟨h1, h2, h3, h4⟩ := ht
  simp only at h1 h2 h3 h4
  have cx := mcells_get M h2
  have cy := mcells_get M h3
  have cz := mcells_get M h4
  have hsz := mcells_size M
  have ix : (x : Int) < 256 := by omega
  have iy : (y : Int) < 256 := by omega
  have iz : (z : Int) < 256 := by omega
  have HZ : Hid (rdFit M ⟨op, x, y, z⟩ = ((decide (op ≤ 5) || M x) && (!(ry op) || M y) && (!(rz op) || M z))) := rfl
  generalize mcells M = C at *
  generalize rdFit M ⟨op, x, y, z⟩ = R at *
  generalize M x = bx at *
  generalize M y = vy at *
  generalize M z = bz at *
  have hsx := fun w => setsx_any op w h1
  have hry := fun w => readsy_any op w h1
  have hrz := fun w => readsz_any op w h1
  generalize decide (op ≤ 5) = b5 at *
  generalize ry op = py at *
  generalize rz op = pz at *
  cases b5 <;> cases bx <;> cases py <;> cases vy <;> cases pz <;> cases bz
  all_goals
    simp only [Bool.or_true, Bool.or_false, Bool.and_true, Bool.and_false, Bool.not_true, Bool.not_false] at HZ
    go_enter Tryd.func29, Tryd.ntmps29
    go_wp2_with first
      | (go_at_call 23; refine (hsx _).mono ?_; rintro e w1 ⟨rfl, rfl⟩)
      | (go_at_call 35; refine (hry _).mono ?_; rintro e w1 ⟨rfl, rfl⟩)
      | (go_at_call 36; refine (hrz _).mono ?_; rintro e w1 ⟨rfl, rfl⟩)
    go_ret
    exact ⟨by rw [HZ.out]; rfl, ((Mod.refl _ _).alloc _).alloc _⟩
end Go.Proofs.YtmnfndpbblpjiaaDoor

/- A whole block's value loaded, a whole value stored, where a walk stands at the operation. -/
namespace Go.Proofs.YtmnfndpbblpjiaaDoor
open Go.RowKit

theorem wpList_load_row {P : Program} {ops : Array Oper} {rest : List Oper} {op : Oper} {a : Act} {w : World} {Q : Exit → Act → World → Prop} (hgd : op.guard = none) (ty : TypeId) (x : Operand) (ho : op.op = .load ty x)
    (b : Nat) (hx : a.eval x = .pointer (some ⟨b, 0, none⟩)) (C : Array Value) (t : TypeId) (fr : Nat × Nat) (hb : w.heap[b]? = some (.cells C t fr)) (d : TypeDesc)
    (hu : P.underlying ty = some d) (hd : d.isRow = true) (hi : (P.info? ty).map (·.size) = some C.size)
    (h : wpList P ops Q rest (a.put op.dst (.agg C)) w) : wpList P ops Q (op :: rest) a w :=
  wpList_plain hgd fun _ hK => by
    have hl := run_loadVar_row w b t ty C fr d hb hu (by cases d <;> simp_all [TypeDesc.isRow]) hi
    unfold Oper.wp execOp
    simp only [ho, hx, Instr.loadAt, Instr.sureAddr, Sem.run_bind, Sem.run_pure, Result.andThen_ok, hl]
    exact hK _ _ h
theorem wpList_store_row {P : Program} {ops : Array Oper} {rest : List Oper} {op : Oper} {a : Act} {w : World} {Q : Exit → Act → World → Prop} (hgd : op.guard = none) (ty : TypeId) (x y : Operand) (ho : op.op = .store ty x y)
    (b : Nat) (C C' : Array Value) (t : TypeId) (hx : a.eval x = .pointer (some ⟨b, 0, none⟩)) (hy : a.eval y = .agg C') (hb : w.heap[b]? = some (.cells C t (0, 0)))
    (hi : (P.info? ty).map (·.size) = some C'.size) (hs : C.size = C'.size) (h1 : C'.all (·.oneCell') = true)
    (h : wpList P ops Q rest (a.put op.dst undef) (w.setRow b C')) : wpList P ops Q (op :: rest) a w :=
  wpList_plain hgd fun _ hK => by
    have hl := run_storeVar_row w b t ty C C' hb hi hs h1
    unfold Oper.wp execOp
    simp only [ho, hx, hy, Instr.storeAt, Instr.sureAddr, Sem.run_bind, Sem.run_pure, Result.andThen_ok, hl]
    exact hK _ _ h
end Go.Proofs.YtmnfndpbblpjiaaDoor

/- The program's stepFits. -/
namespace Go.Proofs.YtmnfndpbblpjiaaDoor
open Go.RowKit Pu

theorem marks_size {n : Nat} (h : n = 256) : (Tryd.prog.info? 50).map (·.size) = some n := by subst h; exact (zero_of_info Tryd.infoM).2
theorem cells4 {w : World} {b : Nat} {t : Stp} (h : w.heap[b]? = some (.cells #[.int .u8 t.op, .int .u8 t.x, .int .u8 t.y, .int .u8 t.z] 52 (0, 0))) :
    w.cell? ⟨b, 0, none⟩ = some (.int .u8 t.op) ∧ w.cell? ⟨b, 1, none⟩ = some (.int .u8 t.x) ∧ w.cell? ⟨b, 2, none⟩ = some (.int .u8 t.y) ∧ w.cell? ⟨b, 3, none⟩ = some (.int .u8 t.z) := by simp [World.cell?, h]
theorem cells3 {w : World} {b : Nat} {x y z : Value} {ty : TypeId} (h : w.heap[b]? = some (.cells #[x, y, z] ty (0, 0))) :
    w.cell? ⟨b, 0, none⟩ = some x ∧ w.cell? ⟨b, 1, none⟩ = some y ∧ w.cell? ⟨b, 2, none⟩ = some z := by simp [World.cell?, h]
theorem alloc2_at (w : World) (o1 o2 : Obj) : ((w.alloc o1).alloc o2).heap[w.heap.size]? = some o1 ∧ ((w.alloc o1).alloc o2).heap[w.heap.size + 1]? = some o2 := by
  refine ⟨?_, by simpa using heap_alloc_new (w.alloc o1) o2⟩
  rw [Below.heap_alloc _ _ _ (by simp)]; exact heap_alloc_new w o1
theorem alloc3_at (w : World) (o1 o2 o3 : Obj) : (((w.alloc o1).alloc o2).alloc o3).heap[w.heap.size]? = some o1 ∧ (((w.alloc o1).alloc o2).alloc o3).heap[w.heap.size + 1]? = some o2 ∧ (((w.alloc o1).alloc o2).alloc o3).heap[w.heap.size + 2]? = some o3 := by
  refine ⟨?_, ?_, ?_⟩
  · rw [Below.heap_alloc _ _ _ (by simp; omega), Below.heap_alloc _ _ _ (by simp)]; exact heap_alloc_new w o1
  · rw [Below.heap_alloc _ _ _ (by simp)]; simpa using heap_alloc_new (w.alloc o1) o2
  · simpa using heap_alloc_new ((w.alloc o1).alloc o2) o3

set_option maxHeartbeats 800000 in
theorem stepfits_any (t : Stp) (regs ins : Nat) (ao : Option Addr) (n cap : Nat) (M : Nat → Bool) (w : World) (ht : Small t) (_hr : regs < 256) (hi : ins < 256) :
    Calls Tryd.prog 22 #[.agg #[.int .u8 regs, .int .u8 ins, .slice ao n cap], stV t, .agg (mcells M)] w fun e w' => e = .returned (.bool (stFit M t regs ins)) ∧ Mod (fun _ => False) w w' := by
  have hcs := mcells_size M
  have HF : Hid (stFit M t regs ins = (opFit t ins && decide (t.x < regs) && rdFit M t)) := rfl
  obtain ⟨a1, a2, a3⟩ := alloc3_at w (.cells #[.int .u8 regs, .int .u8 ins, .slice ao n cap] 41) (.cells #[.int .u8 t.op, .int .u8 t.x, .int .u8 t.y, .int .u8 t.z] 52) (.cells (mcells M) 50)
  have hm0 : Mod (fun _ => False) w (((w.alloc (.cells #[.int .u8 regs, .int .u8 ins, .slice ao n cap] 41)).alloc (.cells #[.int .u8 t.op, .int .u8 t.x, .int .u8 t.y, .int .u8 t.z] 52)).alloc (.cells (mcells M) 50)) := (((Mod.refl _ w).alloc _).alloc _).alloc _
  have hop := fun w => opfit_any t ins w ht hi
  have hrd := fun w => rdfit_any t M w ht
  have hsx := ht.2.1
  generalize mcells M = C at *
  generalize opFit t ins = bo at *
  generalize rdFit M t = br at *
  generalize stFit M t regs ins = bs at *
  go_enter Tryd.func22, Tryd.ntmps22
  go_wp2_with fail
  refine (hop _).mono ?_
  rintro e w1 ⟨rfl, hm1⟩
  have b1 := hm1.keep a1 (fun f => f)
  have b2 := hm1.keep a2 (fun f => f)
  have b3 := hm1.keep a3 (fun f => f)
  obtain ⟨c0, c1, c2⟩ := cells3 b1
  obtain ⟨d0, d1, d2, d3⟩ := cells4 b2
  have hm := hm0.trans hm1
  clear a1 a2 a3 b1 b2 hm0 hm1 hop
  cases bo with
  | false =>
    have HR : Hid (bs = false) := show bs = false by rw [HF.out]; rfl
    go_wp2_with fail
    go_ret
    exact ⟨by rw [HR.out]; rfl, hm⟩
  | true =>
    by_cases hx : t.x < regs
    · have ix : ¬ (regs : Int) ≤ (t.x : Int) := by omega
      have HR : Hid (bs = br) := show bs = br by rw [HF.out]; simp [hx]
      go_wp2_with (refine wpList_load_row (by rfl) 50 _ (by rfl) _ (by rfl) C _ _ b3 _ Tryd.underlying50 (by rfl) (marks_size hcs) ?_)
      refine (hrd _).mono ?_
      rintro e w2 ⟨rfl, hm2⟩
      go_wp2_with fail
      go_ret
      exact ⟨by rw [HR.out]; rfl, hm.trans hm2⟩
    · have ix : (regs : Int) ≤ (t.x : Int) := by omega
      have HR : Hid (bs = false) := show bs = false by rw [HF.out]; simp [hx]
      go_wp2_with fail
      go_ret
      exact ⟨by rw [HR.out]; rfl, hm⟩
end Go.Proofs.YtmnfndpbblpjiaaDoor

/- The program's splitCode. -/
namespace Go.Proofs.YtmnfndpbblpjiaaDoor
open Go.RowKit Pu

theorem Tryd.infoSt : (Tryd.prog.info? 52).map (fun i => (i.zero, i.size, i.bytes)) = some (some (.agg #[.int .u8 0, .int .u8 0, .int .u8 0, .int .u8 0]), 4, 4) := by kernel_rfl
def pcells (t : Stp) : List Value := [.int .u8 t.op, .int .u8 t.x, .int .u8 t.y, .int .u8 t.z]
def pcellsOf (l : List Stp) : List Value := l.flatMap pcells
theorem pcellsOf_snoc (q : List Stp) (t : Stp) : pcellsOf q ++ pcells t = pcellsOf (q ++ [t]) := by simp [pcellsOf]
theorem pcellsOf_at (q : List Stp) (j i : Nat) (hj : j < q.length) (hi : i < 4) : (pcellsOf q)[j * 4 + i]? = (pcells q[j])[i]? := by
  induction q generalizing j with
  | nil => simp at hj
  | cons t q ih =>
    cases j with
    | zero =>
      simp only [pcellsOf, List.flatMap_cons, Nat.zero_mul, Nat.zero_add, List.getElem_cons_zero]
      rw [List.getElem?_append_left (by simpa [pcells] using hi)]
    | succ j =>
      have := ih j (by simpa using hj)
      simp only [pcellsOf, List.flatMap_cons, List.getElem_cons_succ] at *
      rw [List.getElem?_append_right (by simp [pcells]; omega), ← this]
      congr 1
      simp [pcells]; omega
def PLst (w : World) (base : Nat) (v : Value) (l : List Stp) : Prop := w.ownsRow base 52 4 v l.length (pcellsOf l)
theorem PLst.cell {w : World} {base : Nat} {ao : Option Addr} {cap : Nat} {l : List Stp} (h : PLst w base (.slice ao l.length cap) l) {j : Nat} (hj : j < l.length) :
    ∃ gb, ao = some ⟨gb, 0, none⟩ ∧ w.cell? ⟨gb, j * 4, none⟩ = some (.int .u8 l[j].op) ∧ w.cell? ⟨gb, j * 4 + 1, none⟩ = some (.int .u8 l[j].x) ∧ w.cell? ⟨gb, j * 4 + 2, none⟩ = some (.int .u8 l[j].y) ∧ w.cell? ⟨gb, j * 4 + 3, none⟩ = some (.int .u8 l[j].z) := by
  unfold PLst at h
  obtain ⟨gb, rfl, h0⟩ := owns_cell h (j := j * 4 + 0) (by omega)
  have h1 := h.cellAt (j * 4 + 1) (by omega)
  have h2 := h.cellAt (j * 4 + 2) (by omega)
  have h3 := h.cellAt (j * 4 + 3) (by omega)
  rw [pcellsOf_at l j _ hj (by omega)] at h0 h1 h2 h3
  exact ⟨gb, rfl, by simpa [pcells] using h0, by simpa [pcells] using h1, by simpa [pcells] using h2, by simpa [pcells] using h3⟩
theorem PLst.mod {w w' : World} {base : Nat} {v : Value} {l : List Stp} (h : PLst w base v l) (hm : Mod (fun _ => False) w w') : PLst w' base v l := owns_mod h hm (fun _ _ f => f)
theorem PLst.low {w : World} {base base' : Nat} {v : Value} {l : List Stp} (h : PLst w base v l) (hb : base' ≤ base) : PLst w base' v l := owns_base h hb

theorem bne_t {c m : Nat} (h : ¬ c = m) : ((c : Int) != (m : Int)) = true := by simp; omega
theorem bne_f {c m : Nat} (h : c = m) : ((c : Int) != (m : Int)) = false := by subst h; simp
/-- The parts of a code, as the program has them. -/
def SplitEnd (s : ByteArray) (w w' : World) (e : Ending) : Prop :=
  (begunB s = false ∧ e = .returned (.tuple #[.agg #[.int .u8 0, .int .u8 0, .slice none 0 0], .bool false])) ∨
  (begunB s = true ∧ ∃ v, e = .returned (.tuple #[.agg #[.int .u8 (g s 2), .int .u8 (g s 3), v], .bool true]) ∧ PLst w' w.heap.size v (steps s))

set_option maxHeartbeats 1600000 in
set_option maxRecDepth 100000 in
theorem split_bad6 (s : ByteArray) (w : World) (hs : s.size < 6) : Calls Tryd.prog 21 #[.string s] w fun e w' => SplitEnd s w w' e ∧ Mod (fun _ => False) w w' := by
  have HR : Hid (begunB s = false) := show begunB s = false by simp [begunB, show ¬ 6 ≤ s.size by omega]
  have i6 : (s.size : Int) < 6 := by omega
  go_enter Tryd.func21, Tryd.ntmps21
  go_wp2_with fail
  exact bodyPost_ret (v := .tuple #[.agg #[.int .u8 0, .int .u8 0, .slice none 0 0], .bool false]) (by simp [results, Tryd.results21, go_sem]) rfl ⟨.inl ⟨HR.out, rfl⟩, (Mod.refl _ w).alloc _⟩
set_option maxHeartbeats 1600000 in
set_option maxRecDepth 100000 in
theorem split_bad0 (s : ByteArray) (w : World) (h6 : 6 ≤ s.size) (hn : g s 0 ≠ 82) (hs : s.size ≤ 8006) : Calls Tryd.prog 21 #[.string s] w fun e w' => SplitEnd s w w' e ∧ Mod (fun _ => False) w w' := by
  have HR : Hid (begunB s = false) := show begunB s = false by simp [begunB, hn]
  have h0 : 0 < s.size := by omega
  have i6 : ¬ (s.size : Int) < 6 := by omega
  have b0 : (((s[0]'h0).toNat : Int) != 82) = true := bne_t (m := 82) (by rw [g_in h0] at hn; exact hn)
  clear hn
  go_enter Tryd.func21, Tryd.ntmps21
  go_wp2_with fail
  exact bodyPost_ret (v := .tuple #[.agg #[.int .u8 0, .int .u8 0, .slice none 0 0], .bool false]) (by simp [results, Tryd.results21, go_sem]) rfl ⟨.inl ⟨HR.out, rfl⟩, (Mod.refl _ w).alloc _⟩
set_option maxHeartbeats 1600000 in
set_option maxRecDepth 100000 in
theorem split_bad1 (s : ByteArray) (w : World) (h6 : 6 ≤ s.size) (hn0 : g s 0 = 82) (hn : g s 1 ≠ 85) (hs : s.size ≤ 8006) : Calls Tryd.prog 21 #[.string s] w fun e w' => SplitEnd s w w' e ∧ Mod (fun _ => False) w w' := by
  have HR : Hid (begunB s = false) := show begunB s = false by simp [begunB, hn]
  have h0 : 0 < s.size := by omega
  have h1 : 1 < s.size := by omega
  have i6 : ¬ (s.size : Int) < 6 := by omega
  have b0 : (((s[0]'h0).toNat : Int) != 82) = false := bne_f (m := 82) (by rw [g_in h0] at hn0; exact hn0)
  have b1 : (((s[1]'h1).toNat : Int) != 85) = true := bne_t (m := 85) (by rw [g_in h1] at hn; exact hn)
  clear hn hn0
  go_enter Tryd.func21, Tryd.ntmps21
  go_wp2_with fail
  exact bodyPost_ret (v := .tuple #[.agg #[.int .u8 0, .int .u8 0, .slice none 0 0], .bool false]) (by simp [results, Tryd.results21, go_sem]) rfl ⟨.inl ⟨HR.out, rfl⟩, (Mod.refl _ w).alloc _⟩
end Go.Proofs.YtmnfndpbblpjiaaDoor

/- The program's less, and its differences of limbs. -/
namespace Go.Proofs.YtmnfndpbblpjiaaDoor
open Go.RowKit Pu

set_option maxHeartbeats 800000 in
set_option maxRecDepth 4000 in
theorem less9_any (av bv : Value) (a b : List Nat) (abase bbase : Nat) (w : World) (hA : w.ownsRow abase 82 1 av a.length (uvs a)) (hB : w.ownsRow bbase 82 1 bv b.length (uvs b)) (da : D9 a) (db : D9 b) (ta : T9 a) (tb : T9 b) (la : a.length ≤ 100000) (_lb : b.length ≤ 100000) :
    Calls Tryd.prog 68 #[av, bv] w fun e w' => e = .returned (.bool (decide (v9 a < v9 b))) ∧ Mod (fun _ => False) w w' := by
  obtain ⟨ao, acap, rfl, -⟩ := owns_form hA
  obtain ⟨bo, bcap, rfl, -⟩ := owns_form hB
  by_cases hlen : a.length = b.length
  · have HLen : Hid (a.length = b.length) := hlen
    have hb1 : ((a.length : Int) != (b.length : Int)) = false := by rw [hlen]; simp
    clear hlen
    go_enter Tryd.func68, Tryd.ntmps68
    go_wp2_with fail
    go_loopw [5] (fun i wr => ∃ j : Nat, j ≤ a.length ∧ i = .int .i64 ((j : Int) - 1) ∧ (∃ n, wr = w.drewN n) ∧ Hid (a.drop j = b.drop j)) (fun i _ => (intOf i + 1).toNat)
    case atStart => exact ⟨a.length, by omega, rfl, ⟨0, rfl⟩, show a.drop a.length = b.drop a.length by rw [List.drop_of_length_le (by omega), List.drop_of_length_le (by have := HLen.out; omega)]⟩
    case round =>
      obtain ⟨j, hj, rfl, ⟨n, rfl⟩, HD⟩ := hrel
      cases j with
      | zero =>
        have HR : Hid (decide (v9 a < v9 b) = false) := show _ = false by
          have : a = b := by simpa using HD.out
          rw [this]; simp
        go_wp2_with fail
        go_ret
        exact ⟨by rw [HR.out]; rfl, Mod.same n _ w⟩
      | succ j =>
        have hja : j < a.length := by omega
        have hjb : j < b.length := by have := HLen.out; omega
        have e1 : ((j + 1 : Nat) : Int) - 1 = (j : Int) := by omega
        rw [e1]
        clear e1
        obtain ⟨ga, rfl, ca⟩ := uvs_cell hA rfl hja
        obtain ⟨gb, rfl, cb⟩ := uvs_cell hB rfl hjb
        have i1 : (0 : Int) ≤ (j : Int) := by omega
        have i2 : (j : Int) < (a.length : Int) := by omega
        have i3 : (j : Int) < (b.length : Int) := by omega
        rcases Nat.lt_trichotomy a[j] b[j] with hc | hc | hc
        · have HR : Hid (decide (v9 a < v9 b) = true) := show _ = true by
            have := v9_cmp j da HLen.out hja hc HD.out
            simpa using this
          have q1 : ((a[j] : Int) != (b[j] : Int)) = true := bne_t (by omega)
          have q2 : (a[j] : Int) < (b[j] : Int) := by omega
          clear hc
          go_wp2_with fail
          go_quiet (fail)
          go_wp2_with fail
          go_quiet (fail)
          go_wp2_with fail
          go_ret
          exact ⟨by rw [HR.out]; rfl, by simp only [World.drewN_drewN]; exact Mod.same _ _ w⟩
        · have HE : Hid (a.drop j = b.drop j) := show a.drop j = b.drop j by rw [List.drop_eq_getElem_cons hja, List.drop_eq_getElem_cons hjb, HD.out, hc]
          have q1 : ((a[j] : Int) != (b[j] : Int)) = false := bne_f hc
          clear hc
          go_wp2_with fail
          go_quiet (fail)
          go_wp2_with fail
          go_roundw
          case rel => exact ⟨j, by omega, by go_num, ⟨_, rfl⟩, HE⟩
          case measure => simp [intOf]
        · have HR : Hid (decide (v9 a < v9 b) = decide (a[j] < b[j])) := show _ = _ by
            have := v9_cmp j db HLen.out.symm hjb hc HD.out.symm
            rw [decide_eq_false (by omega), decide_eq_false (by omega)]
          have q1 : ((a[j] : Int) != (b[j] : Int)) = true := bne_t (by omega)
          have q2 : ¬ (a[j] : Int) < (b[j] : Int) := by omega
          clear hc
          go_wp2_with fail
          go_quiet (fail)
          go_wp2_with fail
          go_quiet (fail)
          go_wp2_with fail
          go_ret
          exact ⟨by rw [HR.out]; rfl, by simp only [World.drewN_drewN]; exact Mod.same _ _ w⟩
  · have hb1 : ((a.length : Int) != (b.length : Int)) = true := bne_t hlen
    by_cases hlt : a.length < b.length
    · have HR : Hid (decide (v9 a < v9 b) = true) := show _ = true by simpa using v9_shorter da tb hlt
      have q2 : (a.length : Int) < (b.length : Int) := by omega
      clear hlen
      go_enter Tryd.func68, Tryd.ntmps68
      go_wp2_with fail
      go_ret
      exact ⟨by rw [HR.out]; rfl, Mod.refl _ _⟩
    · have HR : Hid (decide (v9 a < v9 b) = false) := show _ = false by
        have := v9_shorter db ta (by omega)
        simp; omega
      have q2 : ¬ (a.length : Int) < (b.length : Int) := by omega
      clear hlen
      go_enter Tryd.func68, Tryd.ntmps68
      go_wp2_with fail
      go_ret
      exact ⟨by rw [HR.out]; rfl, Mod.refl _ _⟩
end Go.Proofs.YtmnfndpbblpjiaaDoor

/- The program's differences of limbs; the limbs of a number of one word. -/
namespace Go.Proofs.YtmnfndpbblpjiaaDoor
open Go.RowKit Pu

set_option maxHeartbeats 1600000 in
set_option maxRecDepth 4000 in
theorem diff_any (av bv : Value) (a b : List Nat) (abase bbase : Nat) (w : World) (hA : w.ownsRow abase 82 1 av a.length (uvs a)) (hB : w.ownsRow bbase 82 1 bv b.length (uvs b)) (da : D9 a) (db : D9 b) (hle : v9 b ≤ v9 a) (hlen : b.length ≤ a.length) (la : a.length ≤ 50000) :
    Calls Tryd.prog 69 #[av, bv] w (LimEnd w (v9 a - v9 b) a.length) := by
  obtain ⟨i0, hii, hz0, hz1, hz2⟩ := info_parts Tryd.infoU
  have HE : Hid (v9 (difTo a b a.length).1 = v9 a - v9 b) := dif_end da db hlen hle
  have HD9 : Hid (D9 (difTo a b a.length).1) := difTo_d9 a b _
  have HBR : Hid (∀ k, (difTo a b k).2 ≤ 1) := difTo_br a b
  have HDL : Hid (∀ k, (difTo a b k).1.length = a.length) := difTo_len a b
  have HDA : Hid (D9 a) := da
  have HDB : Hid (D9 b) := db
  generalize v9 a - v9 b = tot at *
  clear da db hle hlen
  obtain ⟨ao, acap, rfl, -⟩ := owns_form hA
  obtain ⟨bo, bcap, rfl, -⟩ := owns_form hB
  go_enter Tryd.func69, Tryd.ntmps69
  go_wp2_with (at_make; refine wpList_make_full _ rfl _ _ 66 rfl w.heap.size 82 i0 (.int .u64 0) 1 Tryd.underlying66 hii hz0 hz1 _ _ _ _ a.length rfl rfl (by omega) (by omega) (by rw [hz2]; omega) (by unfold maxLen; omega) (by simp) ?_)
  intro W hown0 hgrow0
  have hm0 := (Mod.refl (fun _ => False) w).grown hgrow0 (fun k hk _ => by cases hk)
  have hown1 : W.ownsRow w.heap.size 82 1 (.slice (some ⟨w.heap.size, 0, none⟩) a.length a.length) a.length (uvs (difTo a b 0).1) := by
    show W.ownsRow w.heap.size 82 1 (.slice (some ⟨w.heap.size, 0, none⟩) a.length a.length) a.length (uvs (List.replicate a.length 0))
    rw [← made_u]; simpa using hown0
  clear hgrow0 hown0
  have hwl : w.heap.size < W.heap.size := own_lt hown1 rfl
  have hmA : Mod (fun _ => False) W (W.alloc (.cells #[.slice (some ⟨w.heap.size, 0, none⟩) a.length a.length] 107)) := (Mod.refl _ W).alloc _
  have hT1 := tl_new W (.slice (some ⟨w.heap.size, 0, none⟩) a.length a.length)
  have HH : Hid _ := And.intro (owns_mod hown1 hmA (fun _ _ f => f)) (And.intro hT1 (hm0.trans hmA))
  clear hown1 hT1 hmA hm0
  go_wp2_with fail
  generalize W.alloc (.cells #[.slice (some ⟨w.heap.size, 0, none⟩) a.length a.length] 107) = W1 at *
  go_loopw [6, 15] (fun ov kv wr => ∃ k : Nat, k ≤ a.length ∧ kv = .int .i64 k ∧ ov = .int .u64 ((difTo a b k).2 : Int) ∧ wr.ownsRow w.heap.size 82 1 (.slice (some ⟨w.heap.size, 0, none⟩) a.length a.length) a.length (uvs (difTo a b k).1) ∧ Tl wr W.heap.size (.slice (some ⟨w.heap.size, 0, none⟩) a.length a.length) ∧ Mod (fun _ => False) w wr) (fun _ kv _ => a.length - (intOf kv).toNat)
  case atStart => exact ⟨0, by omega, rfl, rfl, HH.out.1, HH.out.2.1, HH.out.2.2⟩
  case round =>
    clear HH
    obtain ⟨k, hk, rfl, rfl, hO, hT, hm⟩ := hrel
    have t0 := hT.c0
    by_cases hlt : k < a.length
    · have hAr := owns_mod hA hm (fun _ _ f => f)
      have hBr := owns_mod hB hm (fun _ _ f => f)
      obtain ⟨ga, rfl, ca⟩ := uvs_cell hAr rfl hlt
      have hdk : k < (difTo a b k).1.length := by rw [HDL.out]; exact hlt
      obtain ⟨g2, hg2, cd⟩ := uvs_cell hO (HDL.out k).symm hdk
      injection hg2 with hg2
      injection hg2 with hg2
      subst hg2
      have hfz := hO.frozenAt k
      have hak : a[k] < 1000000000 := HDA.out _ (List.getElem_mem hlt)
      have hbk : b[k]?.getD 0 < 1000000000 := getD_lt HDB.out k
      have hbr := HBR.out k
      have hst : (wr.setCell ⟨w.heap.size, k, none⟩ (.int .u64 ((rest a b k (difTo a b k).2 % 1000000000 : Nat) : Int))).ownsRow w.heap.size 82 1 (.slice (some ⟨w.heap.size, 0, none⟩) a.length a.length) a.length (uvs (difTo a b (k + 1)).1) := by
        show World.ownsRow _ _ _ _ _ _ (uvs ((difTo a b k).1.set k (rest a b k (difTo a b k).2 % 1000000000)))
        rw [← uvs_set]; exact (hO.stored k _).1
      have hmq : Mod (fun q => q = w.heap.size) wr (wr.setCell ⟨w.heap.size, k, none⟩ (.int .u64 ((rest a b k (difTo a b k).2 % 1000000000 : Nat) : Int))) := (Mod.refl _ wr).setCell ⟨w.heap.size, k, none⟩ _ (fun _ => rfl)
      have hm2 : Mod (fun _ => False) w (wr.setCell ⟨w.heap.size, k, none⟩ (.int .u64 ((rest a b k (difTo a b k).2 % 1000000000 : Nat) : Int))) := hm.setCell ⟨w.heap.size, k, none⟩ _ (fun h => absurd h (Nat.lt_irrefl _))
      have hT2 : Tl (wr.setCell ⟨w.heap.size, k, none⟩ (.int .u64 ((rest a b k (difTo a b k).2 % 1000000000 : Nat) : Int))) W.heap.size (.slice (some ⟨w.heap.size, 0, none⟩) a.length a.length) := hT.keep hmq (by omega)
      have HN2 : Hid ((difTo a b (k + 1)).2 = 1 - rest a b k (difTo a b k).2 / 1000000000) := rfl
      have HST : Hid _ := And.intro hst (And.intro hT2 hm2)
      have HRS : Hid (rest a b k (difTo a b k).2 = 1000000000 + a[k] - (difTo a b k).2 - b[k]?.getD 0) := show _ = _ by simp [rest, hlt]
      clear hst hm2 hT2 hmq hAr
      generalize rest a b k (difTo a b k).2 = rs at *
      by_cases hkb : k < b.length
      · obtain ⟨gb, rfl, cb⟩ := uvs_cell hBr rfl hkb
        have HG : Hid (b[k]?.getD 0 = b[k]) := show _ = _ by simp [hkb]
        rw [HG.out] at HRS hbk
        clear hBr HG
        generalize a[k] = x at *
        generalize b[k] = y at *
        generalize (difTo a b k).2 = br at *
        have hrs : rs = 1000000000 + x - br - y := HRS.out
        have w1 : IntKind.u64.wrap ((1000000000 : Int) + (x : Int)) = (1000000000 : Int) + (x : Int) := wrap_u64 (by omega) (by omega)
        have w2 : IntKind.u64.wrap ((1000000000 : Int) + (x : Int) - (br : Int)) = (1000000000 : Int) + (x : Int) - (br : Int) := wrap_u64 (by omega) (by omega)
        have w3 : IntKind.u64.wrap ((1000000000 : Int) + (x : Int) - (br : Int) - (y : Int)) = (rs : Int) := by rw [wrap_u64 (by omega) (by omega)]; omega
        have w4 : IntKind.u64.wrap ((1 : Int) - (rs : Int) / 1000000000) = (1 : Int) - (rs : Int) / 1000000000 := wrap_u64 (by omega) (by omega)
        have hrl : rs < 2000000000 := by omega
        clear hrs HRS
        go_wp2_with fail
        go_roundw
        case rel =>
          have h2 := HST.out
          exact ⟨k + 1, by omega, by go_num, by rw [HN2.out]; congr 1; omega, h2.1, h2.2.1, h2.2.2⟩
        case measure => simp [intOf]; omega
      · have HG : Hid (b[k]?.getD 0 = 0) := show _ = _ by simp [hkb]
        rw [HG.out] at HRS hbk
        clear hBr HG
        generalize a[k] = x at *
        generalize (difTo a b k).2 = br at *
        have hrs : rs = 1000000000 + x - br := by have := HRS.out; omega
        have w1 : IntKind.u64.wrap ((1000000000 : Int) + (x : Int)) = (1000000000 : Int) + (x : Int) := wrap_u64 (by omega) (by omega)
        have w2 : IntKind.u64.wrap ((1000000000 : Int) + (x : Int) - (br : Int)) = (rs : Int) := by rw [wrap_u64 (by omega) (by omega)]; omega
        have w4 : IntKind.u64.wrap ((1 : Int) - (rs : Int) / 1000000000) = (1 : Int) - (rs : Int) / 1000000000 := wrap_u64 (by omega) (by omega)
        have hrl : rs < 2000000000 := by omega
        clear hrs HRS
        go_wp2_with fail
        go_roundw
        case rel =>
          have h2 := HST.out
          exact ⟨k + 1, by omega, by go_num, by rw [HN2.out]; congr 1; omega, h2.1, h2.2.1, h2.2.2⟩
        case measure => simp [intOf]; omega
    · have hks : k = a.length := by omega
      subst hks
      have r4 := done_end hT hO (HDL.out _) (by omega) HD9.out HE.out hm
      clear hO hT t0 hm
      go_wp2_with fail
      refine r4.mono ?_
      rintro e W5 ⟨hm5, v5, l5, rfl, hE⟩
      have HE5 : Hid _ := hE
      clear hE
      go_wp2_with fail
      go_ret
      exact ⟨hm5, v5, l5, rfl, HE5.out⟩

set_option maxHeartbeats 800000 in
set_option maxRecDepth 4000 in
theorem limbs_any (n : Nat) (w : World) (hn : n ≤ 1000000) : Calls Tryd.prog 61 #[.int .u64 n] w (LimEnd w n 3) := by
  have hO0 : (w.alloc (.cells #[.int .u64 n, .int .u64 0, .int .u64 0] 82)).ownsRow w.heap.size 82 1 (.slice (some ⟨w.heap.size, 0, none⟩) 3 3) 3 (uvs [n, 0, 0]) :=
    ⟨by simp [uvs], .inr ⟨w.heap.size, 3, #[.int .u64 n, .int .u64 0, .int .u64 0], rfl, Nat.le_refl _, heap_alloc_new w _, Nat.le_refl _, by unfold maxLen; omega, by simp, by simp [uvs]⟩⟩
  have hT := tl_new (w.alloc (.cells #[.int .u64 n, .int .u64 0, .int .u64 0] 82)) (.slice (some ⟨w.heap.size, 0, none⟩) 3 3)
  have hmA : Mod (fun _ => False) (w.alloc (.cells #[.int .u64 n, .int .u64 0, .int .u64 0] 82)) ((w.alloc (.cells #[.int .u64 n, .int .u64 0, .int .u64 0] 82)).alloc (.cells #[.slice (some ⟨w.heap.size, 0, none⟩) 3 3] 107)) := (Mod.refl _ _).alloc _
  have hm1 : Mod (fun _ => False) w ((w.alloc (.cells #[.int .u64 n, .int .u64 0, .int .u64 0] 82)).alloc (.cells #[.slice (some ⟨w.heap.size, 0, none⟩) 3 3] 107)) := ((Mod.refl _ w).alloc _).trans hmA
  have hO1 := owns_mod hO0 hmA (fun _ _ f => f)
  simp only [World.size_alloc] at hT
  have HH : Hid _ := And.intro hO1 (And.intro hT hm1)
  clear hO0 hT hmA hm1 hO1
  go_enter Tryd.func61, Tryd.ntmps61
  go_wp2_with fail
  generalize (w.alloc (.cells #[.int .u64 n, .int .u64 0, .int .u64 0] 82)).alloc (.cells #[.slice (some ⟨w.heap.size, 0, none⟩) 3 3] 107) = W1 at *
  obtain ⟨hO1, hT1, hm1⟩ := HH.out
  clear HH
  have hb : Bd [n, 0, 0] 1000000 := fun x hx => by simp at hx; omega
  have r3 := carry_any (w.heap.size + 1) w.heap.size 3 [n, 0, 0] 1000000 w.heap.size W1 hT1 hO1 (by omega) (by simp) hb (by omega)
  have hce := car_end (L := [n, 0, 0]) (k := 3) rfl (by simp [v9]; omega)
  have hl4 : (carTo [n, 0, 0] 3).1.length = 3 := by rw [carTo_len]; rfl
  have hv0 : v9 [n, 0, 0] = n := by simp [v9]
  rw [hv0] at hce
  have r3' : Calls Tryd.prog 65 #[.pointer (some ⟨w.heap.size + 1, 0, none⟩)] W1 fun e w' => e = .returned (.tuple #[]) ∧ Mod (fun q => q = w.heap.size) W1 w' ∧ w'.ownsRow w.heap.size 82 1 (.slice (some ⟨w.heap.size, 0, none⟩) 3 3) 3 (uvs (carTo [n, 0, 0] 3).1) := r3
  clear r3 hv0 hb
  generalize (carTo [n, 0, 0] 3).1 = L4 at *
  refine r3'.mono ?_
  rintro e W4 ⟨rfl, hm4, hO4⟩
  have hm4' : Mod (fun _ => False) w W4 := ((hm1.mono (q := fun q => q = w.heap.size) (fun _ _ f => f.elim)).trans hm4).mono (fun q hq h => by omega)
  have hT4 : Tl W4 (w.heap.size + 1) (.slice (some ⟨w.heap.size, 0, none⟩) 3 3) := hT1.keep hm4 (by omega)
  have r4 := done_end hT4 hO4 hl4 (by omega) hce.1 hce.2 hm4'
  clear hce hl4 r3' hO1 hT1 hm1 hm4 hm4' hT4 hO4
  go_wp2_with fail
  refine r4.mono ?_
  rintro e W5 ⟨hm5, v5, l5, rfl, hE⟩
  have HE5 : Hid _ := hE
  clear hE
  go_wp2_with fail
  go_ret
  exact ⟨hm5, v5, l5, rfl, HE5.out⟩
end Go.Proofs.YtmnfndpbblpjiaaDoor

/- Steps in memory. -/
namespace Go.Proofs.YtmnfndpbblpjiaaDoor
open Go.RowKit Pu

def tcells (t : Stp) : List Value := [.int .i64 t.op, .int .i64 t.x, .int .i64 t.y, .int .i64 t.z]
def tcellsOf (l : List Stp) : List Value := l.flatMap tcells
theorem tcellsOf_snoc (q : List Stp) (t : Stp) : tcellsOf q ++ tcells t = tcellsOf (q ++ [t]) := by simp [tcellsOf]
theorem tcellsOf_at (q : List Stp) (j i : Nat) (hj : j < q.length) (hi : i < 4) : (tcellsOf q)[j * 4 + i]? = (tcells q[j])[i]? := by
  induction q generalizing j with
  | nil => simp at hj
  | cons t q ih =>
    cases j with
    | zero =>
      simp only [tcellsOf, List.flatMap_cons, Nat.zero_mul, Nat.zero_add, List.getElem_cons_zero]
      rw [List.getElem?_append_left (by simpa [tcells] using hi)]
    | succ j =>
      have := ih j (by simpa using hj)
      simp only [tcellsOf, List.flatMap_cons, List.getElem_cons_succ] at *
      rw [List.getElem?_append_right (by simp [tcells]; omega), ← this]
      congr 1
      simp [tcells]; omega
end Go.Proofs.YtmnfndpbblpjiaaDoor

/- The document's Setter, Reads, proper, right. -/
namespace Go.Proofs.YtmnfndpbblpjiaaDoor
open Go.RowKit Pu

abbrev st4 (t : Stp) : Value := .agg #[.int .i64 t.op, .int .i64 t.x, .int .i64 t.y, .int .i64 t.z]
section
variable {w w' : World} {b : Nat} {t : Stp}
end
def ivs (l : List Nat) : List Value := l.map fun (n : Nat) => Value.int .i64 (n : Int)
theorem Tryd.info3 : (Tryd.prog.info? 3).map (fun i => (i.zero, i.size, i.bytes)) = some (some (.int .i64 0), 1, 8) := by kernel_rfl

end Go.Proofs.YtmnfndpbblpjiaaDoor
