/- The program's stepFits. -/
import Derived.Test.YtmnfndpbblpjiaaGreatDoorVp3
import Derived.Test.YtmnfndpbblpjiaaGreatDoorArr
namespace Go.Proofs.YtmnfndpbblpjiaaGreatDoor
open Go.RowKit Pu

theorem marks_size {n : Nat} (h : n = 256) : (Tryz.prog.info? 105).map (·.size) = some n := by subst h; exact (zero_of_info Tryz.infoM).2
theorem cells4 {w : World} {b : Nat} {t : Stp} (h : w.heap[b]? = some (.cells #[.int .u8 t.op, .int .u8 t.x, .int .u8 t.y, .int .u8 t.z] 107 (0, 0))) :
    w.cell? ⟨b, 0, none⟩ = some (.int .u8 t.op) ∧ w.cell? ⟨b, 1, none⟩ = some (.int .u8 t.x) ∧ w.cell? ⟨b, 2, none⟩ = some (.int .u8 t.y) ∧ w.cell? ⟨b, 3, none⟩ = some (.int .u8 t.z) := by simp [World.cell?, h]
theorem cells3 {w : World} {b : Nat} {x y z : Value} {ty : TypeId} (h : w.heap[b]? = some (.cells #[x, y, z] ty (0, 0))) :
    w.cell? ⟨b, 0, none⟩ = some x ∧ w.cell? ⟨b, 1, none⟩ = some y ∧ w.cell? ⟨b, 2, none⟩ = some z := by simp [World.cell?, h]
theorem alloc2_at (w : World) (o1 o2 : Obj) : ((w.alloc o1).alloc o2).heap[w.heap.size]? = some o1 ∧ ((w.alloc o1).alloc o2).heap[w.heap.size + 1]? = some o2 := by
  refine ⟨?_, by simpa using heap_alloc_new (w.alloc o1) o2⟩
  rw [Below.heap_alloc _ _ _ (by simp)]; exact heap_alloc_new w o1
theorem alloc3_at (w : World) (o1 o2 o3 : Obj) : (((w.alloc o1).alloc o2).alloc o3).heap[w.heap.size]? = some o1 ∧ (((w.alloc o1).alloc o2).alloc o3).heap[w.heap.size + 1]? = some o2 ∧ (((w.alloc o1).alloc o2).alloc o3).heap[w.heap.size + 2]? = some o3 := by
  refine ⟨?_, ?_, ?_⟩
  · rw [Below.heap_alloc _ _ _ (by simp; omega), Below.heap_alloc _ _ _ (by simp)]; exact heap_alloc_new w o1
  · rw [Below.heap_alloc _ _ _ (by simp)]; simpa using heap_alloc_new (w.alloc o1) o2
  · simpa using heap_alloc_new ((w.alloc o1).alloc o2) o3

set_option maxHeartbeats 800000 in
theorem stepfits_any (t : Stp) (regs ins : Nat) (ao : Option Addr) (n cap : Nat) (M : Nat → Bool) (w : World) (ht : Small t) (_hr : regs < 256) (hi : ins < 256) :
    Calls Tryz.prog 72 #[.agg #[.int .u8 regs, .int .u8 ins, .slice ao n cap], stV t, .agg (mcells M)] w fun e w' => e = .returned (.bool (stFit M t regs ins)) ∧ Mod (fun _ => False) w w' := by
  have hcs := mcells_size M
  have HF : Hid (stFit M t regs ins = (opFit t ins && decide (t.x < regs) && rdFit M t)) := rfl
  obtain ⟨a1, a2, a3⟩ := alloc3_at w (.cells #[.int .u8 regs, .int .u8 ins, .slice ao n cap] 52) (.cells #[.int .u8 t.op, .int .u8 t.x, .int .u8 t.y, .int .u8 t.z] 107) (.cells (mcells M) 105)
  have hm0 : Mod (fun _ => False) w (((w.alloc (.cells #[.int .u8 regs, .int .u8 ins, .slice ao n cap] 52)).alloc (.cells #[.int .u8 t.op, .int .u8 t.x, .int .u8 t.y, .int .u8 t.z] 107)).alloc (.cells (mcells M) 105)) := (((Mod.refl _ w).alloc _).alloc _).alloc _
  have hop := fun w => opfit_any t ins w ht hi
  have hrd := fun w => rdfit_any t M w ht
  have hsx := ht.2.1
  generalize mcells M = C at *
  generalize opFit t ins = bo at *
  generalize rdFit M t = br at *
  generalize stFit M t regs ins = bs at *
  go_enter Tryz.func72, Tryz.ntmps72
  go_wp2_with fail
  refine (hop _).mono ?_
  rintro e w1 ⟨rfl, hm1⟩
  have b1 := hm1.keep a1 (fun f => f)
  have b2 := hm1.keep a2 (fun f => f)
  have b3 := hm1.keep a3 (fun f => f)
  obtain ⟨c0, c1, c2⟩ := cells3 b1
  obtain ⟨d0, d1, d2, d3⟩ := cells4 b2
  have hm := hm0.trans hm1
  clear a1 a2 a3 b1 b2 hm0 hm1 hop
  cases bo with
  | false =>
    have HR : Hid (bs = false) := show bs = false by rw [HF.out]; rfl
    go_wp2_with fail
    go_ret
    exact ⟨by rw [HR.out]; rfl, hm⟩
  | true =>
    by_cases hx : t.x < regs
    · have ix : ¬ (regs : Int) ≤ (t.x : Int) := by omega
      have HR : Hid (bs = br) := show bs = br by rw [HF.out]; simp [hx]
      go_wp2_with (refine wpList_load_row (by rfl) 105 _ (by rfl) _ (by rfl) C _ _ b3 _ Tryz.underlying105 (by rfl) (marks_size hcs) ?_)
      refine (hrd _).mono ?_
      rintro e w2 ⟨rfl, hm2⟩
      go_wp2_with fail
      go_ret
      exact ⟨by rw [HR.out]; rfl, hm.trans hm2⟩
    · have ix : (regs : Int) ≤ (t.x : Int) := by omega
      have HR : Hid (bs = false) := show bs = false by rw [HF.out]; simp [hx]
      go_wp2_with fail
      go_ret
      exact ⟨by rw [HR.out]; rfl, hm⟩
end Go.Proofs.YtmnfndpbblpjiaaGreatDoor
