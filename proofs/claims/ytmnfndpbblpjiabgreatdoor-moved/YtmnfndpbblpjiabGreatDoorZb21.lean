/- The program's wantedAhead. -/
import Derived.Test.YtmnfndpbblpjiabGreatDoorZb20
import Derived.Test.YtmnfndpbblpjiabGreatDoorZb04
import Derived.Test.YtmnfndpbblpjiabGreatDoorZb17
import Derived.Test.YtmnfndpbblpjiabGreatDoorZb10
import Derived.Test.YtmnfndpbblpjiabGreatDoorZb18
namespace Go.Proofs.YtmnfndpbblpjiabGreatDoor
open Go.RowKit Pu

theorem results_one {fn : Func} {p : Tmp} {ty : TypeId} (h : fn.results = #[.cell p ty]) (tmps : Array Value) (P : Program) (w : World) :
    (results fn tmps).run P w = ((asAddr (tmps.getD p undef)).run P w).andThen fun a w₁ => (loadVar ty a).run P w₁ := by
  simp only [results, h]
  simp [Sem.run_bind, Result.andThen]
theorem mupd (M : Nat → Bool) (r : Nat) (b : Bool) : (mcells M).setIfInBounds r (.bool b) = mcells (upd r b M) := mcells_set M r b

/-- The step, its marks and the result's place. -/
def AS (w wX : World) (t : Stp) (M : Nat → Bool) : Prop :=
  wX.heap[w.heap.size]? = some (.cells #[.int .u8 t.op, .int .u8 t.x, .int .u8 t.y, .int .u8 t.z] 94 (0, 0)) ∧ wX.heap[w.heap.size + 1]? = some (.cells (mcells M) 98 (0, 0)) ∧
  wX.heap[w.heap.size + 1 + 1]? = some (.cells Tryz.zeroCells98 98 (0, 0)) ∧ Mod (fun _ => False) w wX
theorem AS.set {w wX : World} {t : Stp} {M : Nat → Bool} (h : AS w wX t M) (r : Nat) (v : Bool) : AS w (wX.setCell ⟨w.heap.size + 1, r, none⟩ (.bool v)) t (upd r v M) := by
  obtain ⟨h1, h2, h3, h4⟩ := h
  have hm : Mod (fun q => q = w.heap.size + 1) wX (wX.setCell ⟨w.heap.size + 1, r, none⟩ (.bool v)) := (Mod.refl _ wX).setCell ⟨w.heap.size + 1, r, none⟩ (.bool v) (fun _ => rfl)
  exact ⟨hm.keep h1 (by omega), mset r v h2, hm.keep h3 (by omega), h4.setCell ⟨w.heap.size + 1, r, none⟩ (.bool v) (fun h => absurd h (by show ¬ w.heap.size + 1 < w.heap.size; omega))⟩
theorem AS.drew {w wX : World} {t : Stp} {M : Nat → Bool} (h : AS w wX t M) : AS w wX.drew t M := ⟨h.1, h.2.1, h.2.2.1, h.2.2.2.drew⟩
theorem AS.mx {w wX : World} {t : Stp} {M : Nat → Bool} (h : AS w wX t M) {r : Nat} (hr : r < 256) : wX.cell? ⟨w.heap.size + 1, r, none⟩ = some (.bool (M r)) ∧ wX.frozen? ⟨w.heap.size + 1, r, none⟩ = false := by
  refine ⟨?_, fz3 h.2.1 r⟩
  have := mcells_at M hr
  simp only [World.cell?, h.2.1]; simpa using this
theorem setRow_at {w : World} {b : Nat} {C C' : Array Value} {t : TypeId} (h : w.heap[b]? = some (.cells C t (0, 0))) : (w.setRow b C').heap[b]? = some (.cells C' t (0, 0)) := by
  simp [World.setRow, Array.getElem?_modify, h]
theorem setRow_mod (w : World) (b : Nat) (C : Array Value) : Mod (fun q => q = b) w (w.setRow b C) :=
  ⟨rfl, rfl, rfl, by simp [World.setRow], fun k _ hk => by simp only [World.setRow]; rw [Array.getElem?_modify, if_neg (fun h => hk h.symm)]⟩
theorem setRow_new {w wX : World} {b : Nat} {C : Array Value} (h : Mod (fun _ => False) w wX) (hb : w.heap.size ≤ b) : Mod (fun _ => False) w (wX.setRow b C) := by
  have := (h.mono (q := fun q => q = b) (fun _ _ f => f.elim)).trans (setRow_mod wX b C)
  exact this.mono (fun k hk e => by omega)

set_option maxHeartbeats 800000 in
set_option maxRecDepth 4000 in
theorem ahead_any (t : Stp) (M : Nat → Bool) (w : World) (ht : Small t) : Calls Tryz.prog 154 #[stV t, .agg (mcells M)] w fun e w' => e = .returned (.agg (mcells (wAhead t M))) ∧ Mod (fun _ => False) w w' := by
  obtain ⟨h1, h2, h3, h4⟩ := ht
  have ix : (t.x : Int) < 256 := by omega
  have iy : (t.y : Int) < 256 := by omega
  have iz : (t.z : Int) < 256 := by omega
  have hsz := mcells_size M
  have HZS : Hid (Tryz.zeroCells98.size = 256) := Tryz.zeroCells98_size
  have HW : Hid (wAhead t M = if rz t.op then upd t.z true (if ry t.op then upd t.y true (upd t.x (!decide (t.op ≤ 5)) M) else upd t.x (!decide (t.op ≤ 5)) M)
    else (if ry t.op then upd t.y true (upd t.x (!decide (t.op ≤ 5)) M) else upd t.x (!decide (t.op ≤ 5)) M)) := rfl
  generalize wAhead t M = A at *
  have hsx := fun w => setsx_any t.op w h1
  have hry := fun w => readsy_any t.op w h1
  have hrz := fun w => readsz_any t.op w h1
  generalize decide (t.op ≤ 5) = b5 at *
  generalize ry t.op = py at *
  generalize rz t.op = pz at *
  have hA0 : AS w (((w.alloc (.cells #[.int .u8 t.op, .int .u8 t.x, .int .u8 t.y, .int .u8 t.z] 94)).alloc (.cells (mcells M) 98)).alloc (.cells Tryz.zeroCells98 98)) t M := by
    obtain ⟨a1, a2, a3⟩ := alloc3_at w (.cells #[.int .u8 t.op, .int .u8 t.x, .int .u8 t.y, .int .u8 t.z] 94) (.cells (mcells M) 98) (.cells Tryz.zeroCells98 98)
    exact ⟨a1, a2, a3, (((Mod.refl _ w).alloc _).alloc _).alloc _⟩
  go_enter Tryz.func154, Tryz.ntmps154
  go_wp2_with fail
  generalize ((w.alloc (.cells #[.int .u8 t.op, .int .u8 t.x, .int .u8 t.y, .int .u8 t.z] 94)).alloc (.cells (mcells M) 98)).alloc (.cells Tryz.zeroCells98 98) = w0 at *
  obtain ⟨c0, c1, c2, c3⟩ := cells4 hA0.1
  obtain ⟨mx, fx⟩ := hA0.mx h2
  have hA1 := (hA0.set t.x (!b5)).drew
  clear hA0
  go_region_held3 (fun w' => w'.cell? ⟨w.heap.size, 0, none⟩ = some (.int .u8 t.op) ∧ w'.cell? ⟨w.heap.size, 1, none⟩ = some (.int .u8 t.x)) (go_keep) ((go_at_call 55; refine (hsx _).mono ?_; rintro e w3 ⟨rfl, rfl⟩))
  clear c0 c1 c2 c3 mx fx hsx
  generalize (w0.setCell ⟨w.heap.size + 1, t.x, none⟩ (.bool !b5)).drew = w1 at *
  generalize upd t.x (!b5) M = M1 at *
  obtain ⟨c0, c1, c2, c3⟩ := cells4 hA1.1
  obtain ⟨my, fy⟩ := hA1.mx h3
  have hA2 : AS w (if py then w1.setCell ⟨w.heap.size + 1, t.y, none⟩ (.bool true) else w1) t (if py then upd t.y true M1 else M1) := by
    cases py
    · exact hA1
    · exact hA1.set t.y true
  clear hA1
  have hA2' : ∃ w2 M2, (if py then w1.setCell ⟨w.heap.size + 1, t.y, none⟩ (.bool true) else w1) = w2 ∧ (if py then upd t.y true M1 else M1) = M2 := ⟨_, _, rfl, rfl⟩
  obtain ⟨w2, M2, e2, f2⟩ := hA2'
  rw [e2, f2] at hA2
  rw [f2] at HW
  have hend : ∀ (wF : World) (F : Nat → Bool), AS w wF t F → A = F → Mod (fun _ => False) w (wF.setRow (w.heap.size + 1 + 1) (mcells F)) ∧ (loadVar 98 ⟨w.heap.size + 1 + 1, 0, none⟩).run Tryz.prog (wF.setRow (w.heap.size + 1 + 1) (mcells F)) = .ok (.agg (mcells A)) (wF.setRow (w.heap.size + 1 + 1) (mcells F)) := fun wF F h e => by
    subst e
    exact ⟨setRow_new h.2.2.2 (by omega), run_loadVar_row _ _ _ _ _ (0, 0) _ (setRow_at h.2.2.1) Tryz.underlying98 rfl (marks_size (mcells_size _))⟩
  have HEND : Hid _ := hend
  clear hend
  cases py
  · simp only [Bool.false_eq_true, if_false] at e2
    subst e2
    clear f2 my fy
    go_wp2_with (go_at_call 136; refine (hry _).mono ?_; rintro e w3 ⟨rfl, rfl⟩)
    refine (hrz _).mono ?_
    rintro e w3 ⟨rfl, rfl⟩
    cases pz
    · simp only [Bool.false_eq_true, if_false] at HW
      have hF := hA2
      have HQ : Hid _ := HEND.out w1 M2 hF HW.out
      have HF1 : Hid _ := hF.2.1
      have HF2 : Hid _ := hF.2.2.1
      clear hF
      go_wp2_with (first
        | (refine wpList_load_row rfl 98 _ rfl _ rfl (mcells M2) 98 (0, 0) ?hb0 _ Tryz.underlying98 rfl (marks_size (mcells_size _)) ?_; case hb0 => exact HF1.out)
        | (refine wpList_store_row rfl 98 _ _ rfl _ Tryz.zeroCells98 (mcells M2) 98 rfl rfl ?hb1 (marks_size (mcells_size _)) (by rw [mcells_size]; exact HZS.out) (mcells_one _) ?_; case hb1 => exact HF2.out))
      refine bodyPost_ret (v := .agg (mcells A)) ?_ rfl ⟨rfl, HQ.out.1⟩
      rw [results_one Tryz.results154]
      simp [asAddr, Result.andThen, HQ.out.2, Act.put]
    · simp only [if_true] at HW
      obtain ⟨mz, fz⟩ := hA2.mx h4
      have hF := hA2.set t.z true
      have HQ : Hid _ := HEND.out (w1.setCell ⟨w.heap.size + 1, t.z, none⟩ (.bool true)) (upd t.z true M2) hF HW.out
      have HF1 : Hid _ := hF.2.1
      have HF2 : Hid _ := hF.2.2.1
      clear hF
      go_wp2_with (first
        | (refine wpList_load_row rfl 98 _ rfl _ rfl (mcells (upd t.z true M2)) 98 (0, 0) ?hb0 _ Tryz.underlying98 rfl (marks_size (mcells_size _)) ?_; case hb0 => exact HF1.out)
        | (refine wpList_store_row rfl 98 _ _ rfl _ Tryz.zeroCells98 (mcells (upd t.z true M2)) 98 rfl rfl ?hb1 (marks_size (mcells_size _)) (by rw [mcells_size]; exact HZS.out) (mcells_one _) ?_; case hb1 => exact HF2.out))
      refine bodyPost_ret (v := .agg (mcells A)) ?_ rfl ⟨rfl, HQ.out.1⟩
      rw [results_one Tryz.results154]
      simp [asAddr, Result.andThen, HQ.out.2, Act.put]
  · simp only [if_true] at e2
    obtain ⟨d0, d1, d2, d3⟩ := cells4 hA2.1
    clear f2
    go_wp2_with (go_at_call 136; refine (hry _).mono ?_; rintro e w3 ⟨rfl, rfl⟩)
    clear e2 my fy c0 c1 c2 c3
    refine (hrz _).mono ?_
    rintro e w3 ⟨rfl, rfl⟩
    cases pz
    · simp only [Bool.false_eq_true, if_false] at HW
      have hF := hA2
      have HQ : Hid _ := HEND.out w2 M2 hF HW.out
      have HF1 : Hid _ := hF.2.1
      have HF2 : Hid _ := hF.2.2.1
      clear hF
      go_wp2_with (first
        | (refine wpList_load_row rfl 98 _ rfl _ rfl (mcells M2) 98 (0, 0) ?hb0 _ Tryz.underlying98 rfl (marks_size (mcells_size _)) ?_; case hb0 => exact HF1.out)
        | (refine wpList_store_row rfl 98 _ _ rfl _ Tryz.zeroCells98 (mcells M2) 98 rfl rfl ?hb1 (marks_size (mcells_size _)) (by rw [mcells_size]; exact HZS.out) (mcells_one _) ?_; case hb1 => exact HF2.out))
      refine bodyPost_ret (v := .agg (mcells A)) ?_ rfl ⟨rfl, HQ.out.1⟩
      rw [results_one Tryz.results154]
      simp [asAddr, Result.andThen, HQ.out.2, Act.put]
    · simp only [if_true] at HW
      obtain ⟨mz, fz⟩ := hA2.mx h4
      have hF := hA2.set t.z true
      have HQ : Hid _ := HEND.out (w2.setCell ⟨w.heap.size + 1, t.z, none⟩ (.bool true)) (upd t.z true M2) hF HW.out
      have HF1 : Hid _ := hF.2.1
      have HF2 : Hid _ := hF.2.2.1
      clear hF
      go_wp2_with (first
        | (refine wpList_load_row rfl 98 _ rfl _ rfl (mcells (upd t.z true M2)) 98 (0, 0) ?hb0 _ Tryz.underlying98 rfl (marks_size (mcells_size _)) ?_; case hb0 => exact HF1.out)
        | (refine wpList_store_row rfl 98 _ _ rfl _ Tryz.zeroCells98 (mcells (upd t.z true M2)) 98 rfl rfl ?hb1 (marks_size (mcells_size _)) (by rw [mcells_size]; exact HZS.out) (mcells_one _) ?_; case hb1 => exact HF2.out))
      refine bodyPost_ret (v := .agg (mcells A)) ?_ rfl ⟨rfl, HQ.out.1⟩
      rw [results_one Tryz.results154]
      simp [asAddr, Result.andThen, HQ.out.2, Act.put]
end Go.Proofs.YtmnfndpbblpjiabGreatDoor

/- The program's argumentsOf. -/
namespace Go.Proofs.YtmnfndpbblpjiabGreatDoor
open Go.RowKit Pu

abbrev thC (t : Th) : Array Value := #[rV t.a.x, rV t.a.y, rV t.a.w, rV t.b.x, rV t.b.y, rV t.b.w, rV t.c.x, rV t.c.y, rV t.c.w, rV t.d.x, rV t.d.y, rV t.d.w]
theorem Tryz.infoTh : (Tryz.prog.info? 86).map (·.size) = some 12 := by kernel_rfl
theorem th_one (t : Th) : (thC t).all (·.oneCell') = true := by simp [thC, Value.oneCell']
def tz : Tr := ⟨0, 0, 0⟩
def thz : Th := ⟨tz, tz, tz, tz⟩
/-- The first k arguments are there. -/
def thK (l : List St) (x : St) (k : Nat) : Th := ⟨if 0 < k then thJ l x 0 else tz, if 1 < k then thJ l x 1 else tz, if 2 < k then thJ l x 2 else tz, if 3 < k then thJ l x 3 else tz⟩
theorem thK_all (l : List St) (x : St) : thK l x x.args.length = thO l x := by
  have key : ∀ j, (if j < x.args.length then thJ l x j else tz) = thJ l x j := fun j => by
    unfold thJ tz
    split <;> rfl
  unfold thK thO
  rw [key, key, key, key]
theorem fzH {w : World} {k : Nat} {t : Th} (h : AtH w k t) (i : Nat) : w.frozen? ⟨k, i, none⟩ = false := by unfold AtH at h; simp [World.frozen?, h]
def set3o (w : World) (b o : Nat) (x y z : Value) : World := ((w.setCell ⟨b, o, none⟩ x).setCell ⟨b, o + 1, none⟩ y).setCell ⟨b, o + 2, none⟩ z
theorem set3o_own (w : World) (b o : Nat) (x y z : Value) : Mod (fun q => q = b) w (set3o w b o x y z) := by
  have h0 : Mod (fun q => q = b) w (w.setCell ⟨b, o, none⟩ x) := (Mod.refl _ w).setCell ⟨b, o, none⟩ x (fun _ => rfl)
  have h1 := h0.setCell ⟨b, o + 1, none⟩ y (fun _ => rfl)
  exact h1.setCell ⟨b, o + 2, none⟩ z (fun _ => rfl)
theorem set3o_mod {a w : World} (h : Mod (fun _ => False) a w) (b o : Nat) (x y z : Value) (hb : a.heap.size ≤ b) : Mod (fun _ => False) a (set3o w b o x y z) := by
  have := (h.mono (q := fun q => q = b) (fun _ _ f => f.elim)).trans (set3o_own w b o x y z)
  exact this.mono (fun k hk e => by omega)
theorem cellsH {w : World} {b : Nat} {C : Array Value} {ty : TypeId} (i : Nat) (v : Value) (h : w.heap[b]? = some (.cells C ty (0, 0))) : (w.setCell ⟨b, i, none⟩ v).heap[b]? = some (.cells (C.setIfInBounds i v) ty (0, 0)) := by
  simp [World.setCell, Array.getElem?_modify, h]

theorem AtH.set0 {w : World} {b : Nat} {t : Th} (h : AtH w b t) (u : Tr) : AtH (set3o w b 0 (rV u.x) (rV u.y) (rV u.w)) b ⟨u, t.b, t.c, t.d⟩ := cellsH 2 _ (cellsH 1 _ (cellsH 0 _ h))
theorem AtH.set1 {w : World} {b : Nat} {t : Th} (h : AtH w b t) (u : Tr) : AtH (set3o w b 3 (rV u.x) (rV u.y) (rV u.w)) b ⟨t.a, u, t.c, t.d⟩ := cellsH 5 _ (cellsH 4 _ (cellsH 3 _ h))
theorem AtH.set2 {w : World} {b : Nat} {t : Th} (h : AtH w b t) (u : Tr) : AtH (set3o w b 6 (rV u.x) (rV u.y) (rV u.w)) b ⟨t.a, t.b, u, t.d⟩ := cellsH 8 _ (cellsH 7 _ (cellsH 6 _ h))
theorem AtH.set3 {w : World} {b : Nat} {t : Th} (h : AtH w b t) (u : Tr) : AtH (set3o w b 9 (rV u.x) (rV u.y) (rV u.w)) b ⟨t.a, t.b, t.c, u⟩ := cellsH 11 _ (cellsH 10 _ (cellsH 9 _ h))

set_option maxHeartbeats 1600000 in
set_option maxRecDepth 100000 in
theorem argsOf_any (v : Value) (q : List It) (base : Nat) (x : St) (av : Value) (wt : Int) (w : World) (hq : q.length ≤ 16) (hal : x.args.length ≤ 4) (hL : Lst w base v q) (hA : w.ownsRow base 5 1 av x.args.length (bvs x.args))
    (hg : ∀ i (hi : i < x.args.length), ∃ k, k < 16 ∧ gvI (q.map It.x) x.args[i].toNat = ((k : Nat) : Int)) :
    Calls Tryz.prog 46 #[v, ag4 x.name x.word av wt] w fun e w' => e = .returned (thV (thO (q.map It.x) x)) ∧ Mod (fun _ => False) w w' := by
  have hav := owns_one hA
  obtain ⟨aa, acap, rfl, -⟩ := owns_form hA
  have HG : Hid (∀ i (hi : i < x.args.length), ∃ k, k < 16 ∧ gvI (q.map It.x) x.args[i].toNat = ((k : Nat) : Int)) := hg
  have HK : Hid (thK (q.map It.x) x x.args.length = thO (q.map It.x) x) := thK_all _ _
  clear hg
  have hm0 : Mod (fun _ => False) w (((w.alloc (.cells #[.int .u8 x.name, S x.word, .slice aa x.args.length acap, .int .i64 wt] 72)).alloc (.cells #[.int .u8 0, .int .u8 0, .int .u8 0, .int .u8 0, .int .u8 0, .int .u8 0, .int .u8 0, .int .u8 0, .int .u8 0, .int .u8 0, .int .u8 0, .int .u8 0] 86)).alloc (.cells #[.int .u8 0, .int .u8 0, .int .u8 0, .int .u8 0, .int .u8 0, .int .u8 0, .int .u8 0, .int .u8 0, .int .u8 0, .int .u8 0, .int .u8 0, .int .u8 0] 86)) := (((Mod.refl _ w).alloc _).alloc _).alloc _
  have f_r : AtH (((w.alloc (.cells #[.int .u8 x.name, S x.word, .slice aa x.args.length acap, .int .i64 wt] 72)).alloc (.cells #[.int .u8 0, .int .u8 0, .int .u8 0, .int .u8 0, .int .u8 0, .int .u8 0, .int .u8 0, .int .u8 0, .int .u8 0, .int .u8 0, .int .u8 0, .int .u8 0] 86)).alloc (.cells #[.int .u8 0, .int .u8 0, .int .u8 0, .int .u8 0, .int .u8 0, .int .u8 0, .int .u8 0, .int .u8 0, .int .u8 0, .int .u8 0, .int .u8 0, .int .u8 0] 86)) (w.heap.size + 1) thz := by
    have h := heap_alloc_new (w.alloc (.cells #[.int .u8 x.name, S x.word, .slice aa x.args.length acap, .int .i64 wt] 72)) (.cells #[.int .u8 0, .int .u8 0, .int .u8 0, .int .u8 0, .int .u8 0, .int .u8 0, .int .u8 0, .int .u8 0, .int .u8 0, .int .u8 0, .int .u8 0, .int .u8 0] 86)
    simp only [sz_al] at h
    exact AtH.al (t := thz) h _
  have f_t : AtH (((w.alloc (.cells #[.int .u8 x.name, S x.word, .slice aa x.args.length acap, .int .i64 wt] 72)).alloc (.cells #[.int .u8 0, .int .u8 0, .int .u8 0, .int .u8 0, .int .u8 0, .int .u8 0, .int .u8 0, .int .u8 0, .int .u8 0, .int .u8 0, .int .u8 0, .int .u8 0] 86)).alloc (.cells #[.int .u8 0, .int .u8 0, .int .u8 0, .int .u8 0, .int .u8 0, .int .u8 0, .int .u8 0, .int .u8 0, .int .u8 0, .int .u8 0, .int .u8 0, .int .u8 0] 86)) (w.heap.size + 1 + 1) thz := by
    have h := heap_alloc_new ((w.alloc (.cells #[.int .u8 x.name, S x.word, .slice aa x.args.length acap, .int .i64 wt] 72)).alloc (.cells #[.int .u8 0, .int .u8 0, .int .u8 0, .int .u8 0, .int .u8 0, .int .u8 0, .int .u8 0, .int .u8 0, .int .u8 0, .int .u8 0, .int .u8 0, .int .u8 0] 86)) (.cells #[.int .u8 0, .int .u8 0, .int .u8 0, .int .u8 0, .int .u8 0, .int .u8 0, .int .u8 0, .int .u8 0, .int .u8 0, .int .u8 0, .int .u8 0, .int .u8 0] 86)
    simp only [sz_al] at h
    exact h
  have HH : Hid _ := And.intro hm0 (And.intro f_r f_t)
  clear hm0 f_r f_t
  go_enter Tryz.func46, Tryz.ntmps46
  go_wp2_with fail
  generalize ((w.alloc (.cells #[.int .u8 x.name, S x.word, .slice aa x.args.length acap, .int .i64 wt] 72)).alloc (.cells #[.int .u8 0, .int .u8 0, .int .u8 0, .int .u8 0, .int .u8 0, .int .u8 0, .int .u8 0, .int .u8 0, .int .u8 0, .int .u8 0, .int .u8 0, .int .u8 0] 86)).alloc (.cells #[.int .u8 0, .int .u8 0, .int .u8 0, .int .u8 0, .int .u8 0, .int .u8 0, .int .u8 0, .int .u8 0, .int .u8 0, .int .u8 0, .int .u8 0, .int .u8 0] 86) = w0 at *
  obtain ⟨hm0, f_r, f_t⟩ := HH.out
  clear HH
  go_loopw [12] (fun i wr => ∃ k : Nat, k ≤ x.args.length ∧ i = .int .i64 k ∧ Mod (fun _ => False) w wr ∧ AtH wr (w.heap.size + 1) thz ∧ AtH wr (w.heap.size + 1 + 1) (thK (q.map It.x) x k)) (fun i _ => x.args.length - (intOf i).toNat)
  case atStart => exact ⟨0, by omega, rfl, hm0, f_r, f_t⟩
  case round =>
    clear hm0 f_r f_t
    obtain ⟨k, hk, rfl, hmd, f_r, f_t⟩ := hrel
    by_cases hlt : k < x.args.length
    · have hLr := hL.mod hmd (fun _ _ _ f => f)
      have hAr := owns_mod hA hmd (fun _ _ f => f)
      obtain ⟨gb, rfl, ck⟩ := args_cell hAr rfl hlt
      obtain ⟨j, hj, hgj⟩ := HG.out k hlt
      have hj1 : ((j : Int) == -1) = false := by rw [beq_eq_false_iff_ne]; omega
      have hj2 : ((j : Int) != -1) = true := by rw [bne_iff_ne]; omega
      have hgv := giver_any v q x.args[k].toNat base wr (by omega) hLr
      rw [hgj] at hgv
      have HJ : Hid (thJ (q.map It.x) x k = hm j) := show thJ (q.map It.x) x k = hm j by
        unfold thJ ix ag
        rw [if_pos hlt, List.getElem?_eq_getElem hlt, Option.getD_some, hgj]; rfl
      clear hgj hLr hAr
      have hk4 : k < 4 := by omega
      have HH : Hid _ := And.intro hmd (And.intro f_r f_t)
      clear hmd f_r f_t
      rcases (show k = 0 ∨ k = 1 ∨ k = 2 ∨ k = 3 by omega) with rfl | rfl | rfl | rfl
      · go_wp2_with fail
        refine hgv.mono ?_
        rintro e w2 ⟨rfl, rfl⟩
        clear hgv
        go_wp2_with fail
        obtain ⟨hmd, f_r, f_t⟩ := HH.out
        clear HH
        refine (home_any j hj wr).mono ?_
        rintro e w3 ⟨rfl, k3⟩
        have hm3 := hmd.trans k3
        replace f_r := AtH.md f_r k3
        replace f_t := AtH.md f_t k3
        obtain ⟨c0, c1, c2, c3, c4, c5, c6, c7, c8, c9, c10, c11⟩ := f_t.cs
        have z0 := fzH f_t 0
        have z1 := fzH f_t 1
        have z2 := fzH f_t 2
        have f_t4 := AtH.set0 f_t (hm j)
        have hTh : (⟨hm j, (thK (q.map It.x) x 0).b, (thK (q.map It.x) x 0).c, (thK (q.map It.x) x 0).d⟩ : Th) = thK (q.map It.x) x 1 := by rw [← HJ.out]; rfl
        rw [hTh] at f_t4
        have f_r4 : AtH (set3o w3 (w.heap.size + 1 + 1) 0 (rV (hm j).x) (rV (hm j).y) (rV (hm j).w)) (w.heap.size + 1) thz := (set3o_own w3 (w.heap.size + 1 + 1) 0 (rV (hm j).x) (rV (hm j).y) (rV (hm j).w)).keep f_r (by omega)
        have hm4 := set3o_mod hm3 (w.heap.size + 1 + 1) 0 (rV (hm j).x) (rV (hm j).y) (rV (hm j).w) (by omega)
        have HX : Hid _ := And.intro hm4 (And.intro f_r4 f_t4)
        clear hmd hm3 k3 f_r f_t hm4 f_r4 f_t4
        go_wp2_with fail
        go_roundw
        case rel => exact ⟨1, by omega, by go_num, HX.out.1, HX.out.2.1, HX.out.2.2⟩
        case measure => simp [intOf]; omega
      · go_wp2_with fail
        refine hgv.mono ?_
        rintro e w2 ⟨rfl, rfl⟩
        clear hgv
        go_wp2_with fail
        obtain ⟨hmd, f_r, f_t⟩ := HH.out
        clear HH
        refine (home_any j hj wr).mono ?_
        rintro e w3 ⟨rfl, k3⟩
        have hm3 := hmd.trans k3
        replace f_r := AtH.md f_r k3
        replace f_t := AtH.md f_t k3
        obtain ⟨c0, c1, c2, c3, c4, c5, c6, c7, c8, c9, c10, c11⟩ := f_t.cs
        have z0 := fzH f_t 3
        have z1 := fzH f_t 4
        have z2 := fzH f_t 5
        have f_t4 := AtH.set1 f_t (hm j)
        have hTh : (⟨(thK (q.map It.x) x 1).a, hm j, (thK (q.map It.x) x 1).c, (thK (q.map It.x) x 1).d⟩ : Th) = thK (q.map It.x) x 2 := by rw [← HJ.out]; rfl
        rw [hTh] at f_t4
        have f_r4 : AtH (set3o w3 (w.heap.size + 1 + 1) 3 (rV (hm j).x) (rV (hm j).y) (rV (hm j).w)) (w.heap.size + 1) thz := (set3o_own w3 (w.heap.size + 1 + 1) 3 (rV (hm j).x) (rV (hm j).y) (rV (hm j).w)).keep f_r (by omega)
        have hm4 := set3o_mod hm3 (w.heap.size + 1 + 1) 3 (rV (hm j).x) (rV (hm j).y) (rV (hm j).w) (by omega)
        have HX : Hid _ := And.intro hm4 (And.intro f_r4 f_t4)
        clear hmd hm3 k3 f_r f_t hm4 f_r4 f_t4
        go_wp2_with fail
        go_roundw
        case rel => exact ⟨2, by omega, by go_num, HX.out.1, HX.out.2.1, HX.out.2.2⟩
        case measure => simp [intOf]; omega
      · go_wp2_with fail
        refine hgv.mono ?_
        rintro e w2 ⟨rfl, rfl⟩
        clear hgv
        go_wp2_with fail
        obtain ⟨hmd, f_r, f_t⟩ := HH.out
        clear HH
        refine (home_any j hj wr).mono ?_
        rintro e w3 ⟨rfl, k3⟩
        have hm3 := hmd.trans k3
        replace f_r := AtH.md f_r k3
        replace f_t := AtH.md f_t k3
        obtain ⟨c0, c1, c2, c3, c4, c5, c6, c7, c8, c9, c10, c11⟩ := f_t.cs
        have z0 := fzH f_t 6
        have z1 := fzH f_t 7
        have z2 := fzH f_t 8
        have f_t4 := AtH.set2 f_t (hm j)
        have hTh : (⟨(thK (q.map It.x) x 2).a, (thK (q.map It.x) x 2).b, hm j, (thK (q.map It.x) x 2).d⟩ : Th) = thK (q.map It.x) x 3 := by rw [← HJ.out]; rfl
        rw [hTh] at f_t4
        have f_r4 : AtH (set3o w3 (w.heap.size + 1 + 1) 6 (rV (hm j).x) (rV (hm j).y) (rV (hm j).w)) (w.heap.size + 1) thz := (set3o_own w3 (w.heap.size + 1 + 1) 6 (rV (hm j).x) (rV (hm j).y) (rV (hm j).w)).keep f_r (by omega)
        have hm4 := set3o_mod hm3 (w.heap.size + 1 + 1) 6 (rV (hm j).x) (rV (hm j).y) (rV (hm j).w) (by omega)
        have HX : Hid _ := And.intro hm4 (And.intro f_r4 f_t4)
        clear hmd hm3 k3 f_r f_t hm4 f_r4 f_t4
        go_wp2_with fail
        go_roundw
        case rel => exact ⟨3, by omega, by go_num, HX.out.1, HX.out.2.1, HX.out.2.2⟩
        case measure => simp [intOf]; omega
      · go_wp2_with fail
        refine hgv.mono ?_
        rintro e w2 ⟨rfl, rfl⟩
        clear hgv
        go_wp2_with fail
        obtain ⟨hmd, f_r, f_t⟩ := HH.out
        clear HH
        refine (home_any j hj wr).mono ?_
        rintro e w3 ⟨rfl, k3⟩
        have hm3 := hmd.trans k3
        replace f_r := AtH.md f_r k3
        replace f_t := AtH.md f_t k3
        obtain ⟨c0, c1, c2, c3, c4, c5, c6, c7, c8, c9, c10, c11⟩ := f_t.cs
        have z0 := fzH f_t 9
        have z1 := fzH f_t 10
        have z2 := fzH f_t 11
        have f_t4 := AtH.set3 f_t (hm j)
        have hTh : (⟨(thK (q.map It.x) x 3).a, (thK (q.map It.x) x 3).b, (thK (q.map It.x) x 3).c, hm j⟩ : Th) = thK (q.map It.x) x 4 := by rw [← HJ.out]; rfl
        rw [hTh] at f_t4
        have f_r4 : AtH (set3o w3 (w.heap.size + 1 + 1) 9 (rV (hm j).x) (rV (hm j).y) (rV (hm j).w)) (w.heap.size + 1) thz := (set3o_own w3 (w.heap.size + 1 + 1) 9 (rV (hm j).x) (rV (hm j).y) (rV (hm j).w)).keep f_r (by omega)
        have hm4 := set3o_mod hm3 (w.heap.size + 1 + 1) 9 (rV (hm j).x) (rV (hm j).y) (rV (hm j).w) (by omega)
        have HX : Hid _ := And.intro hm4 (And.intro f_r4 f_t4)
        clear hmd hm3 k3 f_r f_t hm4 f_r4 f_t4
        go_wp2_with fail
        go_roundw
        case rel => exact ⟨4, by omega, by go_num, HX.out.1, HX.out.2.1, HX.out.2.2⟩
        case measure => simp [intOf]; omega
    · have hks : k = x.args.length := by omega
      subst hks
      rw [HK.out] at f_t
      have HF1 : Hid _ := f_t
      have HF2 : Hid _ := f_r
      have HM : Hid _ := setRow_new (b := w.heap.size + 1) (C := thC (thO (q.map It.x) x)) hmd (by omega)
      have HQ : Hid _ := run_loadVar_row (P := Tryz.prog) _ _ _ 86 (thC (thO (q.map It.x) x)) (0, 0) _ (setRow_at (C' := thC (thO (q.map It.x) x)) f_r) Tryz.underlying86 rfl Tryz.infoTh
      clear hmd f_r f_t
      go_wp2_with (first
        | (refine wpList_load_row rfl 86 _ rfl _ rfl (thC (thO (q.map It.x) x)) 86 (0, 0) ?hb0 _ Tryz.underlying86 rfl Tryz.infoTh ?_; case hb0 => exact HF1.out)
        | (refine wpList_store_row rfl 86 _ _ rfl _ (thC thz) (thC (thO (q.map It.x) x)) 86 rfl rfl ?hb1 Tryz.infoTh rfl (th_one _) ?_; case hb1 => exact HF2.out))
      refine bodyPost_ret (v := thV (thO (q.map It.x) x)) ?_ rfl ⟨rfl, HM.out⟩
      rw [results_one Tryz.results46]
      simp [asAddr, Result.andThen, HQ.out, Act.put]
end Go.Proofs.YtmnfndpbblpjiabGreatDoor

/- The maker's methods at every word. -/
namespace Go.Proofs.YtmnfndpbblpjiabGreatDoor
open Go.RowKit Pu

theorem mask_all (wd : List UInt8) (hw : (fm wd).2 = 63) (mb : Nat) (L : List Stp) (s i : Nat) (t : Th) (w : World) (hM : Mkr w mb L s i) (hr : Room L s 54) (h8 : S12 t) :
    Calls Tryz.prog 48 #[mP mb, S wd, thV t] w fun e w' => e = .returned (rV (s + (askL wd s t).2)) ∧ MkEnd w w' mb (L ++ (askL wd s t).1) (s + (askL wd s t).2 + 1) i := by
  rcases word_cases (w := wd) (by omega) with rfl | rfl | rfl | rfl | rfl | rfl | rfl | rfl | rfl | rfl | rfl | rfl | rfl | rfl | rfl | rfl | rfl | rfl
  · cases hw
  · cases hw
  · cases hw
  · cases hw
  · cases hw
  · cases hw
  · cases hw
  · cases hw
  · cases hw
  · exact mask_same mb L s i t w hM (hr.mono (by omega)) h8
  · exact mask_col mb L s i t w hM (hr.mono (by omega)) h8
  · exact mask_ccw mb L s i t w hM (hr.mono (by omega)) h8
  · exact mask_btw mb L s i t w hM (hr.mono (by omega)) h8
  · exact mask_con mb L s i t w hM (hr.mono (by omega)) h8
  · exact mask_on mb L s i t w hM (hr.mono (by omega)) h8
  · exact mask_pll mb L s i t w hM (hr.mono (by omega)) h8
  · exact mask_prp mb L s i t w hM (hr.mono (by omega)) h8
  · exact mask_cc mb L s i t w hM (hr.mono (by omega)) h8
theorem mcon_all (wd : List UInt8) (hw : (fm wd).2 = 80 ∨ (fm wd).2 = 76) (mb : Nat) (L : List Stp) (s i : Nat) (t : Th) (w : World) (hM : Mkr w mb L s i) (hr : Room L s 61) (h8 : S12 t) (hi : i < 100) :
    Calls Tryz.prog 50 #[mP mb, S wd, thV t] w fun e w' => e = .returned (trV (conL wd s i t).2.1) ∧ MkEnd w w' mb (L ++ (conL wd s i t).1) (s + (conL wd s i t).1.length) (conL wd s i t).2.2 := by
  rcases word_cases (w := wd) (by omega) with rfl | rfl | rfl | rfl | rfl | rfl | rfl | rfl | rfl | rfl | rfl | rfl | rfl | rfl | rfl | rfl | rfl | rfl
  · exact mcon_pt mb L s i t w hM (hr.mono (by omega)) h8 hi
  · exact mcon_mid mb L s i t w hM (hr.mono (by omega)) h8
  · exact mcon_line mb L s i t w hM (hr.mono (by omega)) h8
  · exact mcon_par mb L s i t w hM (hr.mono (by omega)) h8
  · exact mcon_perp mb L s i t w hM (hr.mono (by omega)) h8
  · exact mcon_meet mb L s i t w hM (hr.mono (by omega)) h8
  · exact mcon_foot mb L s i t w hM (hr.mono (by omega)) h8
  · exact mcon_mirror mb L s i t w hM (hr.mono (by omega)) h8
  · exact mcon_centre mb L s i t w hM (hr.mono (by omega)) h8
  · rcases hw with hw | hw <;> cases hw
  · rcases hw with hw | hw <;> cases hw
  · rcases hw with hw | hw <;> cases hw
  · rcases hw with hw | hw <;> cases hw
  · rcases hw with hw | hw <;> cases hw
  · rcases hw with hw | hw <;> cases hw
  · rcases hw with hw | hw <;> cases hw
  · rcases hw with hw | hw <;> cases hw
  · rcases hw with hw | hw <;> cases hw
theorem mgrd_all (wd : List UInt8) (hw : (fm wd).2 = 80 ∨ (fm wd).2 = 76) (mb : Nat) (L : List Stp) (s i : Nat) (m : Tr) (k : Nat) (w : World) (hM : Mkr w mb L s i) (hr : Room L s 4) (h8 : S8 m) (hk : k < 16) :
    Calls Tryz.prog 51 #[mP mb, S wd, trV m, .int .i64 k] w fun e w' => e = .returned (.tuple #[]) ∧ MkEnd w w' mb (L ++ grdL wd s m k) (s + grdN wd) i := by
  rcases word_cases (w := wd) (by omega) with rfl | rfl | rfl | rfl | rfl | rfl | rfl | rfl | rfl | rfl | rfl | rfl | rfl | rfl | rfl | rfl | rfl | rfl
  · exact mgrd_pt mb L s i m k w hM hr h8 hk
  · exact mgrd_mid mb L s i m k w hM hr h8 hk
  · exact mgrd_line mb L s i m k w hM hr h8 hk
  · exact mgrd_par mb L s i m k w hM hr h8 hk
  · exact mgrd_perp mb L s i m k w hM hr h8 hk
  · exact mgrd_meet mb L s i m k w hM hr h8 hk
  · exact mgrd_foot mb L s i m k w hM hr h8 hk
  · exact mgrd_mirror mb L s i m k w hM hr h8 hk
  · exact mgrd_centre mb L s i m k w hM hr h8 hk
  · rcases hw with hw | hw <;> cases hw
  · rcases hw with hw | hw <;> cases hw
  · rcases hw with hw | hw <;> cases hw
  · rcases hw with hw | hw <;> cases hw
  · rcases hw with hw | hw <;> cases hw
  · rcases hw with hw | hw <;> cases hw
  · rcases hw with hw | hw <;> cases hw
  · rcases hw with hw | hw <;> cases hw
  · rcases hw with hw | hw <;> cases hw
theorem mkeep_all (wd : List UInt8) (hw : (fm wd).2 = 80 ∨ (fm wd).2 = 76) (mb : Nat) (L : List Stp) (s i : Nat) (m : Tr) (k : Nat) (w : World) (hM : Mkr w mb L s i) (hr : Room L s 4) (h8 : S8 m) (hk : k < 16) :
    Calls Tryz.prog 52 #[mP mb, S wd, trV m, .int .i64 k] w fun e w' => e = .returned (.tuple #[]) ∧ MkEnd w w' mb (L ++ keepL wd s m k) (s + 1) i := by
  rcases word_cases (w := wd) (by omega) with rfl | rfl | rfl | rfl | rfl | rfl | rfl | rfl | rfl | rfl | rfl | rfl | rfl | rfl | rfl | rfl | rfl | rfl
  · exact mkeep_pt mb L s i m k w hM hr h8 hk
  · exact mkeep_mid mb L s i m k w hM hr h8 hk
  · exact mkeep_line mb L s i m k w hM hr h8 hk
  · exact mkeep_par mb L s i m k w hM hr h8 hk
  · exact mkeep_perp mb L s i m k w hM hr h8 hk
  · exact mkeep_meet mb L s i m k w hM hr h8 hk
  · exact mkeep_foot mb L s i m k w hM hr h8 hk
  · exact mkeep_mirror mb L s i m k w hM hr h8 hk
  · exact mkeep_centre mb L s i m k w hM hr h8 hk
  · rcases hw with hw | hw <;> cases hw
  · rcases hw with hw | hw <;> cases hw
  · rcases hw with hw | hw <;> cases hw
  · rcases hw with hw | hw <;> cases hw
  · rcases hw with hw | hw <;> cases hw
  · rcases hw with hw | hw <;> cases hw
  · rcases hw with hw | hw <;> cases hw
  · rcases hw with hw | hw <;> cases hw
  · rcases hw with hw | hw <;> cases hw
/-- How much a statement makes. -/
theorem ask_len (wd : List UInt8) (hw : (fm wd).2 = 63) (t : Th) : (askL wd 48 t).1.length ≤ 60 ∧ (askL wd 48 t).2 ≤ 60 := by
  rcases word_cases (w := wd) (by omega) with rfl | rfl | rfl | rfl | rfl | rfl | rfl | rfl | rfl | rfl | rfl | rfl | rfl | rfl | rfl | rfl | rfl | rfl
  · cases hw
  · cases hw
  · cases hw
  · cases hw
  · cases hw
  · cases hw
  · cases hw
  · cases hw
  · cases hw
  · exact ⟨Nat.le_of_ble_eq_true rfl, Nat.le_of_ble_eq_true rfl⟩
  · exact ⟨Nat.le_of_ble_eq_true rfl, Nat.le_of_ble_eq_true rfl⟩
  · exact ⟨Nat.le_of_ble_eq_true rfl, Nat.le_of_ble_eq_true rfl⟩
  · exact ⟨Nat.le_of_ble_eq_true rfl, Nat.le_of_ble_eq_true rfl⟩
  · exact ⟨Nat.le_of_ble_eq_true rfl, Nat.le_of_ble_eq_true rfl⟩
  · exact ⟨Nat.le_of_ble_eq_true rfl, Nat.le_of_ble_eq_true rfl⟩
  · exact ⟨Nat.le_of_ble_eq_true rfl, Nat.le_of_ble_eq_true rfl⟩
  · exact ⟨Nat.le_of_ble_eq_true rfl, Nat.le_of_ble_eq_true rfl⟩
  · exact ⟨Nat.le_of_ble_eq_true rfl, Nat.le_of_ble_eq_true rfl⟩
theorem con_len (wd : List UInt8) (hw : (fm wd).2 = 80 ∨ (fm wd).2 = 76) (i : Nat) (t : Th) : (conL wd 48 i t).1.length ≤ 61 ∧ S8 (conL wd 48 i t).2.1 ∧ (conL wd 48 i t).2.2 ≤ i + 2 := by
  rcases word_cases (w := wd) (by omega) with rfl | rfl | rfl | rfl | rfl | rfl | rfl | rfl | rfl | rfl | rfl | rfl | rfl | rfl | rfl | rfl | rfl | rfl
  · exact ⟨Nat.le_of_ble_eq_true rfl, ⟨Nat.le_of_ble_eq_true rfl, Nat.le_of_ble_eq_true rfl, Nat.le_of_ble_eq_true rfl⟩, Nat.le_refl _⟩
  · exact ⟨Nat.le_of_ble_eq_true rfl, ⟨Nat.le_of_ble_eq_true rfl, Nat.le_of_ble_eq_true rfl, Nat.le_of_ble_eq_true rfl⟩, Nat.le_add_right i 2⟩
  · exact ⟨Nat.le_of_ble_eq_true rfl, ⟨Nat.le_of_ble_eq_true rfl, Nat.le_of_ble_eq_true rfl, Nat.le_of_ble_eq_true rfl⟩, Nat.le_add_right i 2⟩
  · exact ⟨Nat.le_of_ble_eq_true rfl, ⟨Nat.le_of_ble_eq_true rfl, Nat.le_of_ble_eq_true rfl, Nat.le_of_ble_eq_true rfl⟩, Nat.le_add_right i 2⟩
  · exact ⟨Nat.le_of_ble_eq_true rfl, ⟨Nat.le_of_ble_eq_true rfl, Nat.le_of_ble_eq_true rfl, Nat.le_of_ble_eq_true rfl⟩, Nat.le_add_right i 2⟩
  · exact ⟨Nat.le_of_ble_eq_true rfl, ⟨Nat.le_of_ble_eq_true rfl, Nat.le_of_ble_eq_true rfl, Nat.le_of_ble_eq_true rfl⟩, Nat.le_add_right i 2⟩
  · exact ⟨Nat.le_of_ble_eq_true rfl, ⟨Nat.le_of_ble_eq_true rfl, Nat.le_of_ble_eq_true rfl, Nat.le_of_ble_eq_true rfl⟩, Nat.le_add_right i 2⟩
  · exact ⟨Nat.le_of_ble_eq_true rfl, ⟨Nat.le_of_ble_eq_true rfl, Nat.le_of_ble_eq_true rfl, Nat.le_of_ble_eq_true rfl⟩, Nat.le_add_right i 2⟩
  · exact ⟨Nat.le_of_ble_eq_true rfl, ⟨Nat.le_of_ble_eq_true rfl, Nat.le_of_ble_eq_true rfl, Nat.le_of_ble_eq_true rfl⟩, Nat.le_add_right i 2⟩
  · rcases hw with hw | hw <;> cases hw
  · rcases hw with hw | hw <;> cases hw
  · rcases hw with hw | hw <;> cases hw
  · rcases hw with hw | hw <;> cases hw
  · rcases hw with hw | hw <;> cases hw
  · rcases hw with hw | hw <;> cases hw
  · rcases hw with hw | hw <;> cases hw
  · rcases hw with hw | hw <;> cases hw
  · rcases hw with hw | hw <;> cases hw
theorem grd_len (wd : List UInt8) (hw : (fm wd).2 = 80 ∨ (fm wd).2 = 76) (s : Nat) (m : Tr) (k : Nat) : (grdL wd s m k).length ≤ 4 ∧ grdN wd ≤ 3 ∧ (keepL wd s m k).length = 4 := by
  rcases word_cases (w := wd) (by omega) with rfl | rfl | rfl | rfl | rfl | rfl | rfl | rfl | rfl | rfl | rfl | rfl | rfl | rfl | rfl | rfl | rfl | rfl
  · exact ⟨Nat.le_of_ble_eq_true rfl, Nat.le_of_ble_eq_true rfl, rfl⟩
  · exact ⟨Nat.le_of_ble_eq_true rfl, Nat.le_of_ble_eq_true rfl, rfl⟩
  · exact ⟨Nat.le_of_ble_eq_true rfl, Nat.le_of_ble_eq_true rfl, rfl⟩
  · exact ⟨Nat.le_of_ble_eq_true rfl, Nat.le_of_ble_eq_true rfl, rfl⟩
  · exact ⟨Nat.le_of_ble_eq_true rfl, Nat.le_of_ble_eq_true rfl, rfl⟩
  · exact ⟨Nat.le_of_ble_eq_true rfl, Nat.le_of_ble_eq_true rfl, rfl⟩
  · exact ⟨Nat.le_of_ble_eq_true rfl, Nat.le_of_ble_eq_true rfl, rfl⟩
  · exact ⟨Nat.le_of_ble_eq_true rfl, Nat.le_of_ble_eq_true rfl, rfl⟩
  · exact ⟨Nat.le_of_ble_eq_true rfl, Nat.le_of_ble_eq_true rfl, rfl⟩
  · rcases hw with hw | hw <;> cases hw
  · rcases hw with hw | hw <;> cases hw
  · rcases hw with hw | hw <;> cases hw
  · rcases hw with hw | hw <;> cases hw
  · rcases hw with hw | hw <;> cases hw
  · rcases hw with hw | hw <;> cases hw
  · rcases hw with hw | hw <;> cases hw
  · rcases hw with hw | hw <;> cases hw
  · rcases hw with hw | hw <;> cases hw
theorem con_in (wd : List UInt8) (hw : (fm wd).2 = 80 ∨ (fm wd).2 = 76) (i : Nat) (t : Th) : (conL wd 48 i t).2.2 = i + (if (wd == [112, 116]) = true then 2 else 0) := by
  rcases word_cases (w := wd) (by omega) with rfl | rfl | rfl | rfl | rfl | rfl | rfl | rfl | rfl | rfl | rfl | rfl | rfl | rfl | rfl | rfl | rfl | rfl
  · rfl
  · rfl
  · rfl
  · rfl
  · rfl
  · rfl
  · rfl
  · rfl
  · rfl
  · rcases hw with hw | hw <;> cases hw
  · rcases hw with hw | hw <;> cases hw
  · rcases hw with hw | hw <;> cases hw
  · rcases hw with hw | hw <;> cases hw
  · rcases hw with hw | hw <;> cases hw
  · rcases hw with hw | hw <;> cases hw
  · rcases hw with hw | hw <;> cases hw
  · rcases hw with hw | hw <;> cases hw
  · rcases hw with hw | hw <;> cases hw
theorem hm8 {k : Nat} (h : k < 16) : S8 (hm k) := ⟨by show 3 * k < 256; omega, by show 3 * k + 1 < 256; omega, by show 3 * k + 2 < 256; omega⟩
end Go.Proofs.YtmnfndpbblpjiabGreatDoor

/- The program's look at sorts, and its weighing. -/
namespace Go.Proofs.YtmnfndpbblpjiabGreatDoor
open Go.RowKit Pu

theorem Lst.drewN {w : World} {base : Nat} {v : Value} {q : List It} (h : Lst w base v q) (n : Nat) : Lst (w.drewN n) base v q := h.mod (Mod.same n (fun _ => False) w) (fun _ _ _ f => f)
theorem who_q {q : List It} {nm j : Nat} (hj : j < q.length) (h : gvI (q.map It.x) nm = (j : Int)) : who (pq q) nm = some (q[j].x, q[j].wt) := by
  have := who_of (p := pq q) (nm := nm) (k := j) (by simpa [pq] using hj) (by rw [sts_pq]; exact h)
  simpa [pq] using this
theorem given_q {q : List It} {nm : Nat} (h : gvI (q.map It.x) nm ≠ -1) : ∃ j, ∃ hj : j < q.length, gvI (q.map It.x) nm = (j : Int) ∧ q[j].x.name = nm := by
  obtain ⟨k, hk, h1, h2⟩ := given_lt (p := pq q) (nm := nm) (by rw [sts_pq]; exact h)
  exact ⟨k, by simpa [pq] using hk, by rw [← sts_pq]; exact h1, by simpa [pq] using h2⟩
theorem sorts_no {p : List (St × Nat)} {ag so : List UInt8} {k : Nat} (hk : k < ag.length) (hs : k < so.length) (h : ¬ sG (argWord p ag[k].toNat) = so[k].toNat) : sortsOkG p ag so = false := by
  unfold sortsOkG
  rw [Bool.eq_false_iff, ne_eq, List.all_eq_true]
  intro H
  have := H (ag[k], so[k]) (by rw [← List.getElem_zip (h := by simp; omega)]; exact List.getElem_mem _)
  exact h (by simpa using this)
theorem sorts_yes {p : List (St × Nat)} {ag so : List UInt8} (h : ∀ j (hj : j < ag.length) (hs : j < so.length), sG (argWord p ag[j].toNat) = so[j].toNat) : sortsOkG p ag so = true := by
  unfold sortsOkG
  rw [List.all_eq_true]
  intro y hy
  obtain ⟨j, hj, rfl⟩ := List.getElem_of_mem hy
  have hj' : j < min ag.length so.length := by simpa using hj
  simpa using h j (by omega) (by omega)

set_option maxHeartbeats 1600000 in
set_option maxRecDepth 100000 in
theorem sortsFit_any (v : Value) (q : List It) (base : Nat) (x : St) (av : Value) (wt : Int) (so : List UInt8) (w : World) (hq : q.length ≤ 1000) (hal : x.args.length ≤ 1000) (hL : Lst w base v q) (hA : w.ownsRow base 5 1 av x.args.length (bvs x.args))
    (hg : ∀ j (hj : j < x.args.length), gvI (q.map It.x) x.args[j].toNat ≠ -1) (hlen : x.args.length = so.length) :
    Calls Tryz.prog 75 #[v, ag4 x.name x.word av wt, S so] w fun e w' => e = .returned (.bool (sortsOkG (pq q) x.args so)) ∧ Mod (fun _ => False) w w' := by
  have hS := se_new w x.name x.word av wt
  have hm0 : Mod (fun _ => False) w (w.alloc (.cells #[.int .u8 x.name, S x.word, av, .int .i64 wt] 72)) := (Mod.refl _ w).alloc _
  have hL1 := hL.mod hm0 (fun _ _ _ f => f)
  have hA1 := owns_mod hA hm0 (fun _ _ f => f)
  have hav := owns_one hA
  obtain ⟨aa, acap, rfl, -⟩ := owns_form hA
  obtain ⟨va, vcap, rfl, -⟩ := hL.form
  have HG : Hid (∀ j (hj : j < x.args.length), gvI (q.map It.x) x.args[j].toNat ≠ -1) := hg
  have HLen : Hid (x.args.length = so.length) := hlen
  clear hL hA hg hlen
  go_enter Tryz.func75, Tryz.ntmps75
  go_wp2
  go_loopw [13] (fun i wr => ∃ k : Nat, k ≤ x.args.length ∧ i = .int .i64 k ∧ Mod (fun _ => False) w wr ∧ Lst wr base (.slice va q.length vcap) q ∧ wr.ownsRow base 5 1 (.slice aa x.args.length acap) x.args.length (bvs x.args) ∧ ∀ j (hj : j < x.args.length) (hs : j < so.length), j < k → sG (argWord (pq q) x.args[j].toNat) = so[j].toNat) (fun i _ => x.args.length - (intOf i).toNat)
  case atStart => exact ⟨0, by omega, rfl, hm0, hL1, hA1, fun j hj hs h => by omega⟩
  case round =>
    clear hm0 hL1 hA1 hS
    obtain ⟨k, hk, rfl, hm0, hL1, hA1, hN⟩ := hrel
    have HN : Hid (∀ j (hj : j < x.args.length) (hs : j < so.length), j < k → sG (argWord (pq q) x.args[j].toNat) = so[j].toNat) := hN
    clear hN
    by_cases hlt : k < x.args.length
    · have hks : k < so.length := by have := HLen.out; omega
      obtain ⟨gb, rfl, ck⟩ := args_cell hA1 rfl hlt
      obtain ⟨j, hj, hgj, -⟩ := given_q (HG.out k hlt)
      obtain ⟨vb, rfl, -, cw, -⟩ := hL1.cell hj
      have hw : argWord (pq q) x.args[k].toNat = q[j].x.word := by simp [argWord, who_q hj hgj]
      have HW : Hid (argWord (pq q) x.args[k].toNat = q[j].x.word) := hw
      have HJ : Hid (gvI (q.map It.x) x.args[k].toNat = (j : Int)) := hgj
      clear hw hgj
      have hj1 : ((j : Int) == -1) = false := by rw [beq_eq_false_iff_ne]; omega
      have hso : ∀ h, (⟨so.toArray⟩ : ByteArray)[k]'h = so[k] := fun _ => rfl
      by_cases he : sG q[j].x.word = so[k].toNat
      · have HE : Hid (sG q[j].x.word = so[k].toNat) := he
        have hb : ((sG q[j].x.word : Int) != (so[k].toNat : Int)) = false := by rw [he]; simp
        clear he
        go_wp2_with fail
        have hgv := giver_any (.slice (some ⟨vb, 0, none⟩) q.length vcap) q x.args[k].toNat base wr hq hL1
        rw [HJ.out] at hgv
        refine hgv.mono ?_
        rintro e w2 ⟨rfl, rfl⟩
        clear hgv
        go_wp2
        go_quiet ((go_at_call 122; exact Calls.quiet_of_same ((sortGiven_any _ _).mono fun _ _ h => ⟨h.1, h.2.symm⟩)))
        go_wp2
        go_roundw
        case rel => exact ⟨k + 1, by omega, by go_num, hm0.drewN _, hL1.drewN _, owns_drewN hA1 _, fun j hj hs h => by by_cases e : j = k; (· subst e; rw [HW.out]; exact HE.out); exact HN.out j hj hs (by omega)⟩
        case measure => simp [intOf]; omega
      · have hb : ((sG q[j].x.word : Int) != (so[k].toNat : Int)) = true := by rw [bne_iff_ne]; omega
        go_wp2_with fail
        have hgv := giver_any (.slice (some ⟨vb, 0, none⟩) q.length vcap) q x.args[k].toNat base wr hq hL1
        rw [HJ.out] at hgv
        refine hgv.mono ?_
        rintro e w2 ⟨rfl, rfl⟩
        clear hgv
        go_wp2
        go_quiet ((go_at_call 122; exact Calls.quiet_of_same ((sortGiven_any _ _).mono fun _ _ h => ⟨h.1, h.2.symm⟩)))
        go_wp2
        go_ret
        exact ⟨by rw [sorts_no hlt hks (by rw [HW.out]; exact he)]; rfl, hm0.drewN _⟩
    · go_wp2
      go_ret
      exact ⟨by rw [sorts_yes (fun j hj hs => HN.out j hj hs (by omega))]; rfl, hm0⟩
end Go.Proofs.YtmnfndpbblpjiabGreatDoor
