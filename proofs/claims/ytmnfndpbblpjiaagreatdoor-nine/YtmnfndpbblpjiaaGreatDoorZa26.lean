/- The program's wantedAhead. -/
import Derived.Test.YtmnfndpbblpjiaaGreatDoorZa21
import Derived.Test.YtmnfndpbblpjiaaGreatDoorZa12
import Derived.Test.YtmnfndpbblpjiaaGreatDoorZa25
import Derived.Test.YtmnfndpbblpjiaaGreatDoorZa02
import Derived.Test.YtmnfndpbblpjiaaGreatDoorZa01
namespace Go.Proofs.YtmnfndpbblpjiaaGreatDoor
open Go.RowKit Pu
theorem results_one {fn : Func} {p : Tmp} {ty : TypeId} (h : fn.results = #[.cell p ty]) (tmps : Array Value) (P : Program) (w : World) :
    (results fn tmps).run P w = ((asAddr (tmps.getD p undef)).run P w).andThen fun a w₁ => (loadVar ty a).run P w₁ := by
  simp only [results, h]
  simp [Sem.run_bind, Result.andThen]
theorem mupd (M : Nat → Bool) (r : Nat) (b : Bool) : (mcells M).setIfInBounds r (.bool b) = mcells (upd r b M) := mcells_set M r b
/-- The step, its marks and the result's place. -/
def AS (w wX : World) (t : Stp) (M : Nat → Bool) : Prop :=
  wX.heap[w.heap.size]? = some (.cells #[.int .u8 t.op, .int .u8 t.x, .int .u8 t.y, .int .u8 t.z] 107 (0, 0)) ∧ wX.heap[w.heap.size + 1]? = some (.cells (mcells M) 105 (0, 0)) ∧
  wX.heap[w.heap.size + 1 + 1]? = some (.cells Tryz.zeroCells105 105 (0, 0)) ∧ Mod (fun _ => False) w wX
theorem AS.set {w wX : World} {t : Stp} {M : Nat → Bool} (h : AS w wX t M) (r : Nat) (v : Bool) : AS w (wX.setCell ⟨w.heap.size + 1, r, none⟩ (.bool v)) t (upd r v M) := by
  obtain ⟨h1, h2, h3, h4⟩ := h
  have hm : Mod (fun q => q = w.heap.size + 1) wX (wX.setCell ⟨w.heap.size + 1, r, none⟩ (.bool v)) := (Mod.refl _ wX).setCell ⟨w.heap.size + 1, r, none⟩ (.bool v) (fun _ => rfl)
  exact ⟨hm.keep h1 (by omega), mset r v h2, hm.keep h3 (by omega), h4.setCell ⟨w.heap.size + 1, r, none⟩ (.bool v) (fun h => absurd h (by show ¬ w.heap.size + 1 < w.heap.size; omega))⟩
theorem AS.drew {w wX : World} {t : Stp} {M : Nat → Bool} (h : AS w wX t M) : AS w wX.drew t M := ⟨h.1, h.2.1, h.2.2.1, h.2.2.2.drew⟩
theorem AS.mx {w wX : World} {t : Stp} {M : Nat → Bool} (h : AS w wX t M) {r : Nat} (hr : r < 256) : wX.cell? ⟨w.heap.size + 1, r, none⟩ = some (.bool (M r)) ∧ wX.frozen? ⟨w.heap.size + 1, r, none⟩ = false := by
  refine ⟨?_, fz3 h.2.1 r⟩
  have := mcells_at M hr
  simp only [World.cell?, h.2.1]; simpa using this
theorem setRow_at {w : World} {b : Nat} {C C' : Array Value} {t : TypeId} (h : w.heap[b]? = some (.cells C t (0, 0))) : (w.setRow b C').heap[b]? = some (.cells C' t (0, 0)) := by
  simp [World.setRow, Array.getElem?_modify, h]
theorem setRow_mod (w : World) (b : Nat) (C : Array Value) : Mod (fun q => q = b) w (w.setRow b C) :=
  ⟨rfl, rfl, rfl, by simp [World.setRow], fun k _ hk => by simp only [World.setRow]; rw [Array.getElem?_modify, if_neg (fun h => hk h.symm)]⟩
theorem setRow_new {w wX : World} {b : Nat} {C : Array Value} (h : Mod (fun _ => False) w wX) (hb : w.heap.size ≤ b) : Mod (fun _ => False) w (wX.setRow b C) := by
  have := (h.mono (q := fun q => q = b) (fun _ _ f => f.elim)).trans (setRow_mod wX b C)
  exact this.mono (fun k hk e => by omega)
set_option maxHeartbeats 800000 in
set_option maxRecDepth 4000 in
theorem ahead_any (t : Stp) (M : Nat → Bool) (w : World) (ht : Small t) : Calls Tryz.prog 121 #[stV t, .agg (mcells M)] w fun e w' => e = .returned (.agg (mcells (wAhead t M))) ∧ Mod (fun _ => False) w w' := by
  obtain ⟨h1, h2, h3, h4⟩ := ht
  have ix : (t.x : Int) < 256 := by omega
  have iy : (t.y : Int) < 256 := by omega
  have iz : (t.z : Int) < 256 := by omega
  have hsz := mcells_size M
  have HZS : Hid (Tryz.zeroCells105.size = 256) := Tryz.zeroCells105_size
  have HW : Hid (wAhead t M = if rz t.op then upd t.z true (if ry t.op then upd t.y true (upd t.x (!decide (t.op ≤ 5)) M) else upd t.x (!decide (t.op ≤ 5)) M)
    else (if ry t.op then upd t.y true (upd t.x (!decide (t.op ≤ 5)) M) else upd t.x (!decide (t.op ≤ 5)) M)) := rfl
  generalize wAhead t M = A at *
  have hsx := fun w => setsx_any t.op w h1
  have hry := fun w => readsy_any t.op w h1
  have hrz := fun w => readsz_any t.op w h1
  generalize decide (t.op ≤ 5) = b5 at *
  generalize ry t.op = py at *
  generalize rz t.op = pz at *
  have hA0 : AS w (((w.alloc (.cells #[.int .u8 t.op, .int .u8 t.x, .int .u8 t.y, .int .u8 t.z] 107)).alloc (.cells (mcells M) 105)).alloc (.cells Tryz.zeroCells105 105)) t M := by
    obtain ⟨a1, a2, a3⟩ := alloc3_at w (.cells #[.int .u8 t.op, .int .u8 t.x, .int .u8 t.y, .int .u8 t.z] 107) (.cells (mcells M) 105) (.cells Tryz.zeroCells105 105)
    exact ⟨a1, a2, a3, (((Mod.refl _ w).alloc _).alloc _).alloc _⟩
  go_enter Tryz.func121, Tryz.ntmps121
  go_wp2_with fail
  generalize ((w.alloc (.cells #[.int .u8 t.op, .int .u8 t.x, .int .u8 t.y, .int .u8 t.z] 107)).alloc (.cells (mcells M) 105)).alloc (.cells Tryz.zeroCells105 105) = w0 at *
  obtain ⟨c0, c1, c2, c3⟩ := cells4 hA0.1
  obtain ⟨mx, fx⟩ := hA0.mx h2
  have hA1 := (hA0.set t.x (!b5)).drew
  clear hA0
  go_region_held3 (fun w' => w'.cell? ⟨w.heap.size, 0, none⟩ = some (.int .u8 t.op) ∧ w'.cell? ⟨w.heap.size, 1, none⟩ = some (.int .u8 t.x)) (go_keep) ((go_at_call 73; refine (hsx _).mono ?_; rintro e w3 ⟨rfl, rfl⟩))
  clear c0 c1 c2 c3 mx fx hsx
  generalize (w0.setCell ⟨w.heap.size + 1, t.x, none⟩ (.bool !b5)).drew = w1 at *
  generalize upd t.x (!b5) M = M1 at *
  obtain ⟨c0, c1, c2, c3⟩ := cells4 hA1.1
  obtain ⟨my, fy⟩ := hA1.mx h3
  have hA2 : AS w (if py then w1.setCell ⟨w.heap.size + 1, t.y, none⟩ (.bool true) else w1) t (if py then upd t.y true M1 else M1) := by
    cases py
    · exact hA1
    · exact hA1.set t.y true
  clear hA1
  have hA2' : ∃ w2 M2, (if py then w1.setCell ⟨w.heap.size + 1, t.y, none⟩ (.bool true) else w1) = w2 ∧ (if py then upd t.y true M1 else M1) = M2 := ⟨_, _, rfl, rfl⟩
  obtain ⟨w2, M2, e2, f2⟩ := hA2'
  rw [e2, f2] at hA2
  rw [f2] at HW
  have hend : ∀ (wF : World) (F : Nat → Bool), AS w wF t F → A = F → Mod (fun _ => False) w (wF.setRow (w.heap.size + 1 + 1) (mcells F)) ∧ (loadVar 105 ⟨w.heap.size + 1 + 1, 0, none⟩).run Tryz.prog (wF.setRow (w.heap.size + 1 + 1) (mcells F)) = .ok (.agg (mcells A)) (wF.setRow (w.heap.size + 1 + 1) (mcells F)) := fun wF F h e => by
    subst e
    exact ⟨setRow_new h.2.2.2 (by omega), run_loadVar_row _ _ _ _ _ (0, 0) _ (setRow_at h.2.2.1) Tryz.underlying105 rfl (marks_size (mcells_size _))⟩
  have HEND : Hid _ := hend
  clear hend
  cases py
  · simp only [Bool.false_eq_true, if_false] at e2
    subst e2
    clear f2 my fy
    go_wp2_with (go_at_call 168; refine (hry _).mono ?_; rintro e w3 ⟨rfl, rfl⟩)
    refine (hrz _).mono ?_
    rintro e w3 ⟨rfl, rfl⟩
    cases pz
    · simp only [Bool.false_eq_true, if_false] at HW
      have hF := hA2
      have HQ : Hid _ := HEND.out w1 M2 hF HW.out
      have HF1 : Hid _ := hF.2.1
      have HF2 : Hid _ := hF.2.2.1
      clear hF
      go_wp2_with (first
        | (refine wpList_load_row rfl 105 _ rfl _ rfl (mcells M2) 105 (0, 0) ?hb0 _ Tryz.underlying105 rfl (marks_size (mcells_size _)) ?_; case hb0 => exact HF1.out)
        | (refine wpList_store_row rfl 105 _ _ rfl _ Tryz.zeroCells105 (mcells M2) 105 rfl rfl ?hb1 (marks_size (mcells_size _)) (by rw [mcells_size]; exact HZS.out) (mcells_one _) ?_; case hb1 => exact HF2.out))
      refine bodyPost_ret (v := .agg (mcells A)) ?_ rfl ⟨rfl, HQ.out.1⟩
      rw [results_one Tryz.results121]
      simp [asAddr, Result.andThen, HQ.out.2, Act.put]
    · simp only [if_true] at HW
      obtain ⟨mz, fz⟩ := hA2.mx h4
      have hF := hA2.set t.z true
      have HQ : Hid _ := HEND.out (w1.setCell ⟨w.heap.size + 1, t.z, none⟩ (.bool true)) (upd t.z true M2) hF HW.out
      have HF1 : Hid _ := hF.2.1
      have HF2 : Hid _ := hF.2.2.1
      clear hF
      go_wp2_with (first
        | (refine wpList_load_row rfl 105 _ rfl _ rfl (mcells (upd t.z true M2)) 105 (0, 0) ?hb0 _ Tryz.underlying105 rfl (marks_size (mcells_size _)) ?_; case hb0 => exact HF1.out)
        | (refine wpList_store_row rfl 105 _ _ rfl _ Tryz.zeroCells105 (mcells (upd t.z true M2)) 105 rfl rfl ?hb1 (marks_size (mcells_size _)) (by rw [mcells_size]; exact HZS.out) (mcells_one _) ?_; case hb1 => exact HF2.out))
      refine bodyPost_ret (v := .agg (mcells A)) ?_ rfl ⟨rfl, HQ.out.1⟩
      rw [results_one Tryz.results121]
      simp [asAddr, Result.andThen, HQ.out.2, Act.put]
  · simp only [if_true] at e2
    obtain ⟨d0, d1, d2, d3⟩ := cells4 hA2.1
    clear f2
    go_wp2_with (go_at_call 168; refine (hry _).mono ?_; rintro e w3 ⟨rfl, rfl⟩)
    clear e2 my fy c0 c1 c2 c3
    refine (hrz _).mono ?_
    rintro e w3 ⟨rfl, rfl⟩
    cases pz
    · simp only [Bool.false_eq_true, if_false] at HW
      have hF := hA2
      have HQ : Hid _ := HEND.out w2 M2 hF HW.out
      have HF1 : Hid _ := hF.2.1
      have HF2 : Hid _ := hF.2.2.1
      clear hF
      go_wp2_with (first
        | (refine wpList_load_row rfl 105 _ rfl _ rfl (mcells M2) 105 (0, 0) ?hb0 _ Tryz.underlying105 rfl (marks_size (mcells_size _)) ?_; case hb0 => exact HF1.out)
        | (refine wpList_store_row rfl 105 _ _ rfl _ Tryz.zeroCells105 (mcells M2) 105 rfl rfl ?hb1 (marks_size (mcells_size _)) (by rw [mcells_size]; exact HZS.out) (mcells_one _) ?_; case hb1 => exact HF2.out))
      refine bodyPost_ret (v := .agg (mcells A)) ?_ rfl ⟨rfl, HQ.out.1⟩
      rw [results_one Tryz.results121]
      simp [asAddr, Result.andThen, HQ.out.2, Act.put]
    · simp only [if_true] at HW
      obtain ⟨mz, fz⟩ := hA2.mx h4
      have hF := hA2.set t.z true
      have HQ : Hid _ := HEND.out (w2.setCell ⟨w.heap.size + 1, t.z, none⟩ (.bool true)) (upd t.z true M2) hF HW.out
      have HF1 : Hid _ := hF.2.1
      have HF2 : Hid _ := hF.2.2.1
      clear hF
      go_wp2_with (first
        | (refine wpList_load_row rfl 105 _ rfl _ rfl (mcells (upd t.z true M2)) 105 (0, 0) ?hb0 _ Tryz.underlying105 rfl (marks_size (mcells_size _)) ?_; case hb0 => exact HF1.out)
        | (refine wpList_store_row rfl 105 _ _ rfl _ Tryz.zeroCells105 (mcells (upd t.z true M2)) 105 rfl rfl ?hb1 (marks_size (mcells_size _)) (by rw [mcells_size]; exact HZS.out) (mcells_one _) ?_; case hb1 => exact HF2.out))
      refine bodyPost_ret (v := .agg (mcells A)) ?_ rfl ⟨rfl, HQ.out.1⟩
      rw [results_one Tryz.results121]
      simp [asAddr, Result.andThen, HQ.out.2, Act.put]
end Go.Proofs.YtmnfndpbblpjiaaGreatDoor

/- The program's neededSteps. -/
namespace Go.Proofs.YtmnfndpbblpjiaaGreatDoor
open Go.RowKit Pu
set_option maxHeartbeats 1600000 in
set_option maxRecDepth 4000 in
theorem need_any (v : Value) (l : List Stp) (base : Nat) (w : World) (hl : l.length ≤ 3000) (hL : PLst w base v l) (hsm : ∀ t ∈ l, Small t) :
    Calls Tryz.prog 79 #[v] w fun e w' => Mod (fun _ => False) w w' ∧ ∃ u, e = .returned u ∧ w'.ownsRow w.heap.size 4 1 u l.length (tvs (neededL l)) := by
  obtain ⟨i0, hi, hz0, hz1, hz2⟩ := info_parts Tryz.info4
  obtain ⟨ao, cap, rfl, -⟩ := owns_form hL
  have HSM : Hid (∀ t ∈ l, Small t) := hsm
  clear hsm
  have HZ : Hid (Tryz.zeroCells105 = mcells (fun _ => false)) := Tryz.marks0
  go_enter Tryz.func79, Tryz.ntmps79
  go_wp2_with (at_make; refine wpList_make_full _ rfl _ _ 73 rfl w.heap.size 4 i0 (.bool false) 1 Tryz.underlying73 hi hz0 hz1 _ _ _ _ l.length rfl rfl (by omega) (by omega) (by rw [hz2]; omega) (by unfold maxLen; omega) (by simp) ?_)
  intro W hown0 hgrow0
  have hm0 := (Mod.refl (fun _ => False) w).grown hgrow0 (fun k hk _ => by cases hk)
  have hown1 : W.ownsRow w.heap.size 4 1 (.slice (some ⟨w.heap.size, 0, none⟩) l.length l.length) l.length (tvs (toldTo l l.length)) := by
    rw [toldTo_start, ← made_false]; simpa using hown0
  have hwl : w.heap.size < W.heap.size := (hown1.lt w.heap.size rfl).2
  clear hgrow0 hown0
  have hown2 := owns_mod hown1 ((Mod.refl (fun _ => False) W).alloc (.cells Tryz.zeroCells105 105)) (fun _ _ f => f)
  have hmb : (W.alloc (.cells Tryz.zeroCells105 105)).heap[W.heap.size]? = some (.cells (mcells (fun _ => false)) 105 (0, 0)) := by rw [← HZ.out]; exact heap_alloc_new W _
  have hm1 := hm0.alloc (.cells Tryz.zeroCells105 105)
  have HH : Hid _ := And.intro hown2 (And.intro hmb hm1)
  have hmW := hm0.size
  clear hown2 hmb hm1 hown1 hm0
  go_wp2_with fail
  go_loopw [5] (fun kv wr => ∃ (k : Nat) (nd : List Bool) (M : Nat → Bool), k ≤ l.length ∧ kv = .int .i64 ((k : Int) - 1) ∧ NInv l k nd M ∧ wr.ownsRow w.heap.size 4 1 (.slice (some ⟨w.heap.size, 0, none⟩) l.length l.length) l.length (tvs (toldTo l k)) ∧ wr.heap[W.heap.size]? = some (.cells (mcells M) 105 (0, 0)) ∧ Mod (fun _ => False) w wr) (fun kv _ => (intOf kv + 1).toNat)
  case atStart => exact ⟨l.length, _, _, by omega, rfl, NInv.start l, HH.out.1, HH.out.2.1, HH.out.2.2⟩
  case round =>
    clear HH
    obtain ⟨k, nd, M, hk, rfl, hN, hown, hM, hm⟩ := hrel
    cases k with
    | zero =>
      clear hM hN
      rw [toldTo_zero] at hown
      go_wp2_with fail
      go_ret
      exact ⟨hm, _, rfl, hown⟩
    | succ k =>
      have hkl : k < l.length := by omega
      have e1 : ((k + 1 : Nat) : Int) - 1 = (k : Int) := by omega
      rw [e1]
      clear e1
      have hLr := hL.mod hm
      obtain ⟨gb, rfl, c0, c1, c2, c3⟩ := hLr.cell hkl
      have hs := HSM.out _ (List.getElem_mem hkl)
      obtain ⟨gd, hgd, cd⟩ := tvs_cell hown (by rw [toldTo_len l _ (by omega)]) (k := k) (by rw [toldTo_len l _ (by omega)]; exact hkl)
      injection hgd with hgd
      injection hgd with hgd
      subst hgd
      have fd := hown.frozenAt k
      have hst : ∀ b, (neededL l)[k]? = some b → (wr.setCell ⟨w.heap.size, k, none⟩ (.bool b)).ownsRow w.heap.size 4 1 (.slice (some ⟨w.heap.size, 0, none⟩) l.length l.length) l.length (tvs (toldTo l k)) := fun b hb => by
        rw [← toldTo_step hkl hb, ← tvs_set]; exact (hown.stored k (.bool b)).1
      have HVAL : Hid ((neededL l)[k]? = some (pN l[k] M)) := hN.val hkl
      have HYES : Hid (pN l[k] M = true → NInv l k (needStep l k nd) (wAhead l[k] M)) := fun h => hN.yes hkl h
      have HNO : Hid (pN l[k] M = false → NInv l k (needStep l k nd) M) := fun h => hN.no hkl h
      generalize l[k] = t at *
      have hah := fun w => ahead_any t M w hs
      have hsx := fun w => setsx_any t.op w hs.1
      have mx : wr.cell? ⟨W.heap.size, t.x, none⟩ = some (.bool (M t.x)) := by
        have := mcells_at M hs.2.1
        simp only [World.cell?, hM]; simpa using this
      have hWl := lt_of_block hM
      have ix : (t.x : Int) < 256 := by have := hs.2.1; omega
      have HPN : Hid (pN t M = (!decide (t.op ≤ 5) || M t.x)) := rfl
      have hne : ¬ w.heap.size = W.heap.size := by omega
      generalize decide (t.op ≤ 5) = b5 at *
      generalize hmx : M t.x = bx at *
      clear hmx hLr
      cases b5 with
      | false =>
        have hp : pN t M = true := by rw [HPN.out]; rfl
        have HV : Hid _ := hst true (by rw [HVAL.out, hp])
        have hN2 := HYES.out hp
        have hms : Mod (fun q => q = w.heap.size) wr (wr.setCell ⟨w.heap.size, k, none⟩ (.bool true)) := (Mod.refl _ wr).setCell ⟨w.heap.size, k, none⟩ (.bool true) (fun _ => rfl)
        have hmw2 : Mod (fun _ => False) w ((wr.setCell ⟨w.heap.size, k, none⟩ (.bool true)).alloc (.cells #[.int .u8 t.op, .int .u8 t.x, .int .u8 t.y, .int .u8 t.z] 107)) := (hm.setCell ⟨w.heap.size, k, none⟩ (.bool true) (fun h => absurd h (Nat.lt_irrefl _))).alloc _
        have HMA : Hid (((wr.setCell ⟨w.heap.size, k, none⟩ (.bool true)).alloc (.cells #[.int .u8 t.op, .int .u8 t.x, .int .u8 t.y, .int .u8 t.z] 107)).heap[W.heap.size]? = some (.cells (mcells M) 105 (0, 0))) := (hms.alloc _).keep hM (by omega)
        have hwr : w.heap.size < wr.heap.size := by omega
        clear hms hst hN hp hown hm HYES HNO hM
        go_wp2_with (first
          | (go_at_call 73; refine (hsx _).mono ?_; rintro e w3 ⟨rfl, rfl⟩)
          | (refine wpList_load_row rfl 105 _ rfl _ rfl (mcells M) 105 (0, 0) ?hb0 _ Tryz.underlying105 rfl (marks_size (mcells_size _)) ?_; case hb0 => exact HMA.out))
        refine (hah _).mono ?_
        rintro e w3 ⟨rfl, hm3⟩
        have HM3 : Hid _ := hm3.keep HMA.out (fun f => f)
        have hmw3 := hmw2.trans hm3
        have hown3 : (w3.setRow W.heap.size (mcells (wAhead t M))).ownsRow w.heap.size 4 1 (.slice (some ⟨w.heap.size, 0, none⟩) l.length l.length) l.length (tvs (toldTo l k)) :=
          owns_mod' (owns_mod (owns_mod HV.out ((Mod.refl (fun _ => False) _).alloc _) (fun _ _ f => f)) hm3 (fun _ _ f => f)) (setRow_mod w3 W.heap.size (mcells (wAhead t M))) (fun g h1 h2 => by injection h1 with h1; subst h1; exact absurd h2 (by show ¬ w.heap.size = W.heap.size; omega))
        have HM4 : Hid _ := setRow_at (C' := mcells (wAhead t M)) HM3.out
        have hmw4 := setRow_new (C := mcells (wAhead t M)) hmw3 (b := W.heap.size) (by omega)
        clear HV HMA hm3 hmw3 hmw2
        go_wp2_with (refine wpList_store_row rfl 105 _ _ rfl _ (mcells M) (mcells (wAhead t M)) 105 rfl rfl ?hb1 (marks_size (mcells_size _)) (by rw [mcells_size, mcells_size]) (mcells_one _) ?_; case hb1 => exact HM3.out)
        go_roundw
        case rel => exact ⟨k, _, _, by omega, by go_num, hN2, hown3, HM4.out, hmw4⟩
        case measure => simp [intOf]
      | true =>
        cases bx with
        | true =>
          have hp : pN t M = true := by rw [HPN.out]; rfl
          have HV : Hid _ := hst true (by rw [HVAL.out, hp])
          have hN2 := HYES.out hp
          have hms : Mod (fun q => q = w.heap.size) wr (wr.setCell ⟨w.heap.size, k, none⟩ (.bool true)) := (Mod.refl _ wr).setCell ⟨w.heap.size, k, none⟩ (.bool true) (fun _ => rfl)
          have hmw2 : Mod (fun _ => False) w ((wr.setCell ⟨w.heap.size, k, none⟩ (.bool true)).alloc (.cells #[.int .u8 t.op, .int .u8 t.x, .int .u8 t.y, .int .u8 t.z] 107)) := (hm.setCell ⟨w.heap.size, k, none⟩ (.bool true) (fun h => absurd h (Nat.lt_irrefl _))).alloc _
          have HMA : Hid (((wr.setCell ⟨w.heap.size, k, none⟩ (.bool true)).alloc (.cells #[.int .u8 t.op, .int .u8 t.x, .int .u8 t.y, .int .u8 t.z] 107)).heap[W.heap.size]? = some (.cells (mcells M) 105 (0, 0))) := (hms.alloc _).keep hM (by omega)
          have hwr : w.heap.size < wr.heap.size := by omega
          clear hms hst hN hp hown hm HYES HNO hM
          go_wp2_with (first
            | (go_at_call 73; refine (hsx _).mono ?_; rintro e w3 ⟨rfl, rfl⟩)
            | (refine wpList_load_row rfl 105 _ rfl _ rfl (mcells M) 105 (0, 0) ?hb0 _ Tryz.underlying105 rfl (marks_size (mcells_size _)) ?_; case hb0 => exact HMA.out))
          refine (hah _).mono ?_
          rintro e w3 ⟨rfl, hm3⟩
          have HM3 : Hid _ := hm3.keep HMA.out (fun f => f)
          have hmw3 := hmw2.trans hm3
          have hown3 : (w3.setRow W.heap.size (mcells (wAhead t M))).ownsRow w.heap.size 4 1 (.slice (some ⟨w.heap.size, 0, none⟩) l.length l.length) l.length (tvs (toldTo l k)) :=
            owns_mod' (owns_mod (owns_mod HV.out ((Mod.refl (fun _ => False) _).alloc _) (fun _ _ f => f)) hm3 (fun _ _ f => f)) (setRow_mod w3 W.heap.size (mcells (wAhead t M))) (fun g h1 h2 => by injection h1 with h1; subst h1; exact absurd h2 (by show ¬ w.heap.size = W.heap.size; omega))
          have HM4 : Hid _ := setRow_at (C' := mcells (wAhead t M)) HM3.out
          have hmw4 := setRow_new (C := mcells (wAhead t M)) hmw3 (b := W.heap.size) (by omega)
          clear HV HMA hm3 hmw3 hmw2
          go_wp2_with (refine wpList_store_row rfl 105 _ _ rfl _ (mcells M) (mcells (wAhead t M)) 105 rfl rfl ?hb1 (marks_size (mcells_size _)) (by rw [mcells_size, mcells_size]) (mcells_one _) ?_; case hb1 => exact HM3.out)
          go_roundw
          case rel => exact ⟨k, _, _, by omega, by go_num, hN2, hown3, HM4.out, hmw4⟩
          case measure => simp [intOf]
        | false =>
          have hp : pN t M = false := by rw [HPN.out]; rfl
          have hV := hst false (by rw [HVAL.out, hp])
          have hN2 := HNO.out hp
          have hms : Mod (fun q => q = w.heap.size) wr (wr.setCell ⟨w.heap.size, k, none⟩ (.bool false)) := (Mod.refl _ wr).setCell ⟨w.heap.size, k, none⟩ (.bool false) (fun _ => rfl)
          have hmw2 : Mod (fun _ => False) w ((wr.setCell ⟨w.heap.size, k, none⟩ (.bool false)).alloc (.cells #[.int .u8 t.op, .int .u8 t.x, .int .u8 t.y, .int .u8 t.z] 107)) := (hm.setCell ⟨w.heap.size, k, none⟩ (.bool false) (fun h => absurd h (Nat.lt_irrefl _))).alloc _
          have HMA : Hid (((wr.setCell ⟨w.heap.size, k, none⟩ (.bool false)).alloc (.cells #[.int .u8 t.op, .int .u8 t.x, .int .u8 t.y, .int .u8 t.z] 107)).heap[W.heap.size]? = some (.cells (mcells M) 105 (0, 0))) := (hms.alloc _).keep hM (by omega)
          have hV2 := owns_mod hV ((Mod.refl (fun _ => False) _).alloc (.cells #[.int .u8 t.op, .int .u8 t.x, .int .u8 t.y, .int .u8 t.z] 107)) (fun _ _ f => f)
          have hwr : w.heap.size < wr.heap.size := by omega
          clear hms hst hN hp hown hm HYES HNO hM hV
          go_wp2_with (go_at_call 73; refine (hsx _).mono ?_; rintro e w3 ⟨rfl, rfl⟩)
          go_roundw
          case rel => exact ⟨k, _, _, by omega, by go_num, hN2, hV2, HMA.out, hmw2⟩
          case measure => simp [intOf]
end Go.Proofs.YtmnfndpbblpjiaaGreatDoor

/- The program's keepNeeded. -/
namespace Go.Proofs.YtmnfndpbblpjiaaGreatDoor
open Go.RowKit Pu
set_option maxHeartbeats 1600000 in
set_option maxRecDepth 4000 in
theorem kept_any (v : Value) (l : List Stp) (base : Nat) (w : World) (hl : l.length ≤ 3000) (hL : PLst w base v l) (hsm : ∀ t ∈ l, Small t) :
    Calls Tryz.prog 48 #[v] w fun e w' => Mod (fun _ => False) w w' ∧ ∃ u, e = .returned u ∧ PLst w' w.heap.size u (keepTo l (neededL l) l.length) := by
  obtain ⟨i0, hi, hz0, hz1, hz2⟩ := info_parts Tryz.infoSt
  obtain ⟨ao, cap, rfl, -⟩ := owns_form hL
  have HN := need_any _ l base w hl hL hsm
  go_enter Tryz.func48, Tryz.ntmps48
  go_wp2_with fail
  refine HN.mono ?_
  rintro e w1 ⟨hm1, u, rfl, hown⟩
  have HNL : Hid ((neededL l).length = l.length) := neededL_len l
  generalize hnd : neededL l = nd at *
  have HND : Hid (neededL l = nd) := hnd
  clear hnd
  obtain ⟨uo, ucap, rfl, -⟩ := owns_form hown
  have hL1 := hL.mod hm1
  have hs1 := hm1.size
  clear HN hsm hL
  go_wp2_with fail
  go_loopw [4, 11] (fun v kv wr => ∃ k : Nat, k ≤ l.length ∧ kv = .int .i64 k ∧ PLst wr w1.heap.size v (keepTo l nd k) ∧ Mod (fun q => w1.heap.size ≤ q) w1 wr ∧ (keepTo l nd k).length ≤ k) (fun _ kv _ => l.length - (intOf kv).toNat)
  case atStart => exact ⟨0, by omega, rfl, World.ownsRow_nil _ _ _ _, Mod.refl _ _, Nat.le_refl _⟩
  case round =>
    obtain ⟨k, hk, rfl, hP, hm, hq⟩ := hrel
    unfold PLst at hP
    obtain ⟨po, pcap, rfl, -⟩ := owns_form hP
    have hmF : Mod (fun _ => False) w1 wr := hm.mono (fun q hq h => by omega)
    by_cases hlt : k < l.length
    · have hkn : k < nd.length := by rw [HNL.out]; exact hlt
      have hLr := hL1.mod hmF
      obtain ⟨gb, rfl, c0, c1, c2, c3⟩ := hLr.cell hlt
      have hownr := owns_mod hown hmF (fun _ _ f => f)
      obtain ⟨ub, rfl, ck⟩ := tvs_cell hownr HNL.out.symm hkn
      have hul := (hownr.lt ub rfl).2
      have hma := hm.alloc (.cells #[.int .u8 l[k].op, .int .u8 l[k].x, .int .u8 l[k].y, .int .u8 l[k].z] 107)
      have hPa := owns_mod hP ((Mod.refl (fun _ => False) wr).alloc (.cells #[.int .u8 l[k].op, .int .u8 l[k].x, .int .u8 l[k].y, .int .u8 l[k].z] 107)) (fun _ _ f => f)
      have hsr := hm.size
      clear hLr hownr hmF
      cases hdk : nd[k] with
      | false =>
        rw [hdk] at ck
        have HK : Hid (keepTo l nd (k + 1) = keepTo l nd k) := keepTo_no hkn hdk
        have HKN : Hid (PLst (wr.alloc (.cells #[.int .u8 l[k].op, .int .u8 l[k].x, .int .u8 l[k].y, .int .u8 l[k].z] 107)) w1.heap.size (.slice po (keepTo l nd k).length pcap) (keepTo l nd (k + 1))) := show PLst _ _ _ _ by
          rw [HK.out]; exact hPa
        generalize hkl : (keepTo l nd k).length = kl at *
        have HKL : Hid ((keepTo l nd (k + 1)).length ≤ k + 1) := show _ ≤ _ by rw [HK.out, hkl]; omega
        clear hkl hdk
        go_wp2_with fail
        go_roundw
        case rel => exact ⟨k + 1, by omega, by go_num, HKN.out, hma, HKL.out⟩
        case measure => simp [intOf]; omega
      | true =>
        rw [hdk] at ck
        have HK : Hid (keepTo l nd (k + 1) = keepTo l nd k ++ [l[k]]) := keepTo_yes hkn hlt hdk
        generalize hkt : keepTo l nd k = kt at *
        generalize l[k] = t at *
        clear hkt hdk
        go_wp2_with (at_builtin; refine wpList_append_own _ rfl _ _ 50 rfl w1.heap.size 107 i0 _ 4 4 Tryz.underlying50 hi hz0 hz1 hz2 rfl (by decide) _ _ _ rfl (hPa.alloc _) ⟨wr.heap.size + 1, 0, none⟩ 1 1 (pcells t) rfl rfl ?c1 ?c2 ?c3 ?c4 ?c5 ?_)
        case c1 => exact World.news_of_block (cs := #[.int .u8 t.op, .int .u8 t.x, .int .u8 t.y, .int .u8 t.z]) (t := 107) (fr := (0, 0)) (alloc2_at wr _ _).2
        case c2 => simp [pcells, Value.oneCell']
        case c3 => unfold maxLen; omega
        case c4 => omega
        case c5 => simp; omega
        intro v' w4 hown4 hgrow _
        have hgm : Mod (fun i => w1.heap.size ≤ i) wr w4 := (((Mod.refl _ wr).alloc _).alloc _).grown hgrow (fun i hi _ => (hP.lt i hi).1)
        have hm4 := hm.trans hgm
        have HP4 : Hid (PLst w4 w1.heap.size v' (keepTo l nd (k + 1))) := show PLst _ _ _ _ by
          rw [HK.out]; unfold PLst; rw [← pcellsOf_snoc]; simpa using hown4
        have HKL : Hid ((keepTo l nd (k + 1)).length ≤ k + 1) := show _ ≤ _ by rw [HK.out]; simp; omega
        clear hown4 hgrow hgm hP hPa hm hma
        go_wp2_with fail
        go_roundw
        case rel => exact ⟨k + 1, by omega, by go_num, HP4.out, hm4, HKL.out⟩
        case measure => simp [intOf]; omega
    · have hks : k = l.length := by omega
      subst hks
      have hE : PLst wr w.heap.size (.slice po (keepTo l nd l.length).length pcap) (keepTo l nd l.length) := owns_base hP (by omega)
      have hmE := hm1.trans hmF
      go_wp2_with fail
      go_ret
      exact ⟨hmE, _, rfl, by rw [HND.out]; exact hE⟩
end Go.Proofs.YtmnfndpbblpjiaaGreatDoor

/- The program's joinCode. -/
namespace Go.Proofs.YtmnfndpbblpjiaaGreatDoor
open Go.RowKit Pu
theorem ofNat_u8 {n : Nat} (h : n < 256) : ((UInt8.ofNat n).toNat : Int) = (n : Int) := by
  rw [UInt8.toNat_ofNat_of_lt' (by simpa using h)]
theorem bvs_st {t : Stp} (h : Small t) : bvs (stB t) = pcells t := by
  obtain ⟨h1, h2, h3, h4⟩ := h
  simp [bvs, stB, pcells]
  omega
theorem owns_built {w : World} {b e : Nat} {c : Array Value} (h : w.heap[b]? = some (.cells c e (0, 0))) (hc : c.size ≤ 1000) : w.ownsRow b e 1 (.slice (some ⟨b, 0, none⟩) c.size c.size) c.size c.toList :=
  ⟨by simp, .inr ⟨b, c.size, c, rfl, Nat.le_refl _, h, Nat.le_refl _, by unfold maxLen; omega, by simp, by simpa using List.take_of_length_le (by simp)⟩⟩
theorem joined_head {r i n : Nat} (hr : r < 256) (hi : i < 256) (hn : n ≤ 3000) : bvs [82, 85, UInt8.ofNat r, UInt8.ofNat i, UInt8.ofNat (n % 256), UInt8.ofNat (n / 256)] = [.int .u8 82, .int .u8 85, .int .u8 r, .int .u8 i, .int .u8 ((n : Int) % 256), .int .u8 ((n : Int) / 256)] := by
  simp [bvs]
  omega
set_option maxHeartbeats 1600000 in
set_option maxRecDepth 4000 in
theorem join_any (v : Value) (l : List Stp) (r i base : Nat) (w : World) (hl : l.length ≤ 3000) (hL : PLst w base v l) (hsm : ∀ t ∈ l, Small t) (hr : r < 256) (hi : i < 256) :
    Calls Tryz.prog 49 #[.agg #[.int .u8 r, .int .u8 i, v]] w fun e w' => e = .returned (S (joined r i l)) ∧ Mod (fun _ => False) w w' := by
  obtain ⟨i0, hii, hz0, hz1, hz2⟩ := info_parts Tryz.info5
  obtain ⟨ao, cap, rfl, -⟩ := owns_form hL
  have HSM : Hid (∀ t ∈ l, Small t) := hsm
  clear hsm
  go_enter Tryz.func49, Tryz.ntmps49
  go_wp2_with fail
  obtain ⟨a1, a2⟩ := alloc2_at w (.cells #[.int .u8 r, .int .u8 i, .slice ao l.length cap] 52) (.cells #[.int .u8 82, .int .u8 85, .int .u8 r, .int .u8 i, .int .u8 ((l.length : Int) % 256), .int .u8 ((l.length : Int) / 256)] 5)
  have hm0 : Mod (fun _ => False) w ((w.alloc (.cells #[.int .u8 r, .int .u8 i, .slice ao l.length cap] 52)).alloc (.cells #[.int .u8 82, .int .u8 85, .int .u8 r, .int .u8 i, .int .u8 ((l.length : Int) % 256), .int .u8 ((l.length : Int) / 256)] 5)) := ((Mod.refl _ w).alloc _).alloc _
  have hO0 := owns_built a2 (by simp)
  have hO1 : ((w.alloc (.cells #[.int .u8 r, .int .u8 i, .slice ao l.length cap] 52)).alloc (.cells #[.int .u8 82, .int .u8 85, .int .u8 r, .int .u8 i, .int .u8 ((l.length : Int) % 256), .int .u8 ((l.length : Int) / 256)] 5)).ownsRow (w.heap.size + 1) 5 1 (.slice (some ⟨w.heap.size + 1, 0, none⟩) 6 6) ([82, 85, UInt8.ofNat r, UInt8.ofNat i, UInt8.ofNat (l.length % 256), UInt8.ofNat (l.length / 256)] ++ (l.take 0).flatMap stB).length (bvs ([82, 85, UInt8.ofNat r, UInt8.ofNat i, UInt8.ofNat (l.length % 256), UInt8.ofNat (l.length / 256)] ++ (l.take 0).flatMap stB)) := by
    simp only [List.take_zero, List.flatMap_nil, List.append_nil]
    rw [joined_head hr hi hl]
    exact hO0
  have hmw : w.heap.size < ((w.alloc (.cells #[.int .u8 r, .int .u8 i, .slice ao l.length cap] 52)).alloc (.cells #[.int .u8 82, .int .u8 85, .int .u8 r, .int .u8 i, .int .u8 ((l.length : Int) % 256), .int .u8 ((l.length : Int) / 256)] 5)).heap.size := by simp; omega
  clear hO0 a1 a2
  generalize ((w.alloc (.cells #[.int .u8 r, .int .u8 i, .slice ao l.length cap] 52)).alloc (.cells #[.int .u8 82, .int .u8 85, .int .u8 r, .int .u8 i, .int .u8 ((l.length : Int) % 256), .int .u8 ((l.length : Int) / 256)] 5)) = w1 at *
  go_loopw [4, 24] (fun v kv wr => ∃ k : Nat, k ≤ l.length ∧ kv = .int .i64 k ∧ wr.ownsRow (w.heap.size + 1) 5 1 v ([82, 85, UInt8.ofNat r, UInt8.ofNat i, UInt8.ofNat (l.length % 256), UInt8.ofNat (l.length / 256)] ++ (l.take k).flatMap stB).length (bvs ([82, 85, UInt8.ofNat r, UInt8.ofNat i, UInt8.ofNat (l.length % 256), UInt8.ofNat (l.length / 256)] ++ (l.take k).flatMap stB)) ∧ Mod (fun _ => False) w wr ∧ w.heap.size < wr.heap.size) (fun _ kv _ => l.length - (intOf kv).toNat)
  case atStart => exact ⟨0, by omega, rfl, hO1, hm0, by omega⟩
  case round =>
    clear hO1 hm0 hmw
    obtain ⟨k, hk, rfl, hown, hm, hwl⟩ := hrel
    have HJ : Hid (∀ h : k < l.length, [82, 85, UInt8.ofNat r, UInt8.ofNat i, UInt8.ofNat (l.length % 256), UInt8.ofNat (l.length / 256)] ++ (l.take (k + 1)).flatMap stB = ([82, 85, UInt8.ofNat r, UInt8.ofNat i, UInt8.ofNat (l.length % 256), UInt8.ofNat (l.length / 256)] ++ (l.take k).flatMap stB) ++ stB l[k]) := fun h => by
      rw [List.take_succ_eq_append_getElem h, List.flatMap_append, ← List.append_assoc, List.flatMap_cons, List.flatMap_nil, List.append_nil]
    have HJE : Hid (k = l.length → [82, 85, UInt8.ofNat r, UInt8.ofNat i, UInt8.ofNat (l.length % 256), UInt8.ofNat (l.length / 256)] ++ (l.take k).flatMap stB = joined r i l) := fun h => by
      subst h; rw [List.take_length]; rfl
    have hjl : ([82, 85, UInt8.ofNat r, UInt8.ofNat i, UInt8.ofNat (l.length % 256), UInt8.ofNat (l.length / 256)] ++ (l.take k).flatMap stB).length ≤ 20000 := by
      have : ∀ q : List Stp, (q.flatMap stB).length = 4 * q.length := fun q => by
        induction q with
        | nil => rfl
        | cons t q ih => simp [ih, stB]; omega
      simp [this]; omega
    generalize hjs : [82, 85, UInt8.ofNat r, UInt8.ofNat i, UInt8.ofNat (l.length % 256), UInt8.ofNat (l.length / 256)] ++ (l.take k).flatMap stB = js at *
    clear hjs
    obtain ⟨jo, jcap, rfl, -⟩ := owns_form hown
    by_cases hlt : k < l.length
    · have hLr := hL.mod hm
      obtain ⟨gb, rfl, c0, c1, c2, c3⟩ := hLr.cell hlt
      have HB4 : Hid (bvs (stB l[k]) = pcells l[k]) := bvs_st (HSM.out _ (List.getElem_mem hlt))
      have HJ1 : Hid _ := HJ.out hlt
      generalize l[k] = t at *
      clear hLr HJ HJE
      have hOa := owns_mod hown ((Mod.refl (fun _ => False) wr).alloc (.cells #[.int .u8 t.op, .int .u8 t.x, .int .u8 t.y, .int .u8 t.z] 107)) (fun _ _ f => f)
      go_wp2_with (at_builtin; refine wpList_append_own _ rfl _ _ 75 rfl (w.heap.size + 1) 5 i0 _ 1 1 Tryz.underlying75 hii hz0 hz1 hz2 rfl (by decide) _ _ _ rfl (hOa.alloc _) ⟨wr.heap.size + 1, 0, none⟩ 4 4 (pcells t) rfl rfl ?c1 ?c2 ?c3 ?c4 ?c5 ?_)
      case c1 => exact World.news_of_block (cs := #[.int .u8 t.op, .int .u8 t.x, .int .u8 t.y, .int .u8 t.z]) (t := 5) (fr := (0, 0)) (alloc2_at wr _ _).2
      case c2 => simp [pcells, Value.oneCell']
      case c3 => unfold maxLen; omega
      case c4 => omega
      case c5 => simp; omega
      intro v' w4 hown4 hgrow _
      have hgm : Mod (fun i => w.heap.size + 1 ≤ i) wr w4 := (((Mod.refl _ wr).alloc _).alloc _).grown hgrow (fun i hi _ => (hown.lt i hi).1)
      have hm4 : Mod (fun _ => False) w w4 := ⟨hgm.os.trans hm.os, hgm.tape.trans hm.tape, hgm.output.trans hm.output, Nat.le_trans hm.size hgm.size, fun i hi _ => (hgm.block i (by omega) (by omega)).trans (hm.block i hi (fun f => f))⟩
      have hwl4 : w.heap.size < w4.heap.size := by have := hgm.size; omega
      have HO4 : Hid (w4.ownsRow (w.heap.size + 1) 5 1 v' (js ++ stB t).length (bvs (js ++ stB t))) := show w4.ownsRow _ _ _ _ _ _ by
        have e : bvs (js ++ stB t) = bvs js ++ pcells t := by rw [← HB4.out]; simp [bvs]
        rw [e]
        simpa [stB] using hown4
      clear hown4 hgrow hgm hown hOa hm hwl
      go_wp2_with fail
      go_roundw
      case rel => exact ⟨k + 1, by omega, by go_num, by rw [HJ1.out]; exact HO4.out, hm4, hwl4⟩
      case measure => simp [intOf]; omega
    · have HE : Hid (js = joined r i l) := HJE.out (by omega)
      have hcv := convert_owned (P := Tryz.prog) hown rfl Tryz.underlying75 Tryz.underlying5 Tryz.underlying9
      go_wp2_with fail
      go_ret
      exact ⟨by rw [← HE.out]; rfl, hm⟩
end Go.Proofs.YtmnfndpbblpjiaaGreatDoor

/- Whole numbers in limbs of nine decimal digits: plain. -/
namespace Go.Proofs.YtmnfndpbblpjiaaGreatDoor.Pu
def v9 : List Nat → Nat
  | [] => 0
  | d :: l => d + 1000000000 * v9 l
def D9 (l : List Nat) : Prop := ∀ d ∈ l, d < 1000000000
def T9 (l : List Nat) : Prop := ∀ d, l.getLast? = some d → d ≠ 0
theorem v9_append (a b : List Nat) : v9 (a ++ b) = v9 a + 1000000000 ^ a.length * v9 b := by
  induction a with
  | nil => simp [v9]
  | cons d a ih =>
    simp only [List.cons_append, v9, ih, List.length_cons, Nat.pow_succ, Nat.mul_add]
    rw [Nat.add_assoc]
    congr 2
    rw [← Nat.mul_assoc, Nat.mul_comm (1000000000 : Nat) (1000000000 ^ a.length)]
theorem v9_lt {a : List Nat} (h : D9 a) : v9 a < 1000000000 ^ a.length := by
  induction a with
  | nil => simp [v9]
  | cons d a ih =>
    have h1 := h d (by simp)
    have h2 := ih (fun x hx => h x (by simp [hx]))
    simp only [v9, List.length_cons, Nat.pow_succ]
    omega
theorem v9_zeros (n : Nat) : v9 (List.replicate n 0) = 0 := by
  induction n with
  | zero => rfl
  | succ n ih => simp [List.replicate_succ, v9, ih]
theorem v9_top {a : List Nat} (ht : T9 a) (hn : a ≠ []) : 1000000000 ^ (a.length - 1) ≤ v9 a := by
  obtain ⟨b, x, rfl⟩ : ∃ b x, a = b ++ [x] := ⟨a.dropLast, a.getLast hn, (List.dropLast_concat_getLast hn).symm⟩
  have hx : x ≠ 0 := ht x (by simp)
  rw [v9_append]
  simp only [v9, List.length_append, List.length_cons, List.length_nil]
  have : 1000000000 ^ b.length * 1 ≤ 1000000000 ^ b.length * (x + 1000000000 * 0) := Nat.mul_le_mul_left _ (by omega)
  simp at this ⊢
  omega
theorem v9_zero_top {l : List Nat} : v9 (l ++ [0]) = v9 l := by rw [v9_append]; simp [v9]
theorem v9_set (l : List Nat) (k x : Nat) (hk : k < l.length) : v9 (l.set k x) + 1000000000 ^ k * l[k] = v9 l + 1000000000 ^ k * x := by
  induction l generalizing k with
  | nil => simp at hk
  | cons d l ih =>
    cases k with
    | zero => simp [v9]; omega
    | succ k =>
      have hkl : k < l.length := by simpa using hk
      have := ih k hkl
      simp only [List.set_cons_succ, v9, List.getElem_cons_succ, Nat.pow_succ]
      have e1 : 1000000000 ^ k * 1000000000 * l[k] = 1000000000 * (1000000000 ^ k * l[k]) := by rw [Nat.mul_comm (1000000000 ^ k) 1000000000, Nat.mul_assoc]
      have e2 : 1000000000 ^ k * 1000000000 * x = 1000000000 * (1000000000 ^ k * x) := by rw [Nat.mul_comm (1000000000 ^ k) 1000000000, Nat.mul_assoc]
      rw [e1, e2]
      omega
theorem v9_take (l : List Nat) (k : Nat) (hk : k < l.length) : v9 (l.take (k + 1)) = v9 (l.take k) + 1000000000 ^ k * l[k] := by
  rw [List.take_succ_eq_append_getElem hk, v9_append, List.length_take, Nat.min_eq_left (by omega)]
  simp [v9]
theorem v9_split (l : List Nat) (k : Nat) (hk : k ≤ l.length) : v9 l = v9 (l.take k) + 1000000000 ^ k * v9 (l.drop k) := by
  have h := v9_append (l.take k) (l.drop k)
  rw [List.take_append_drop, List.length_take, Nat.min_eq_left hk] at h
  exact h
/-- A sign and limbs. -/
def num9 (neg : Bool) (l : List Nat) : Int := if neg then -(v9 l : Int) else (v9 l : Int)
def C9 (neg : Bool) (l : List Nat) : Prop := D9 l ∧ T9 l ∧ (l = [] → neg = false)
theorem v9_nil {l : List Nat} (ht : T9 l) (h : v9 l = 0) : l = [] := by
  cases hl : l with
  | nil => rfl
  | cons d q =>
    have h1 := v9_top ht (by rw [hl]; simp)
    have h2 : 0 < 1000000000 ^ (l.length - 1) := Nat.pow_pos (by omega)
    omega
end Go.Proofs.YtmnfndpbblpjiaaGreatDoor.Pu

/- Limbs: a row added; carries; noughts on top. -/
namespace Go.Proofs.YtmnfndpbblpjiaaGreatDoor.Pu
def rowTo (L : List Nat) (a : Nat) (b : List Nat) (f : Nat) : Nat → List Nat
  | 0 => L
  | k + 1 => (rowTo L a b f k).set (a + k) ((rowTo L a b f k)[a + k]?.getD 0 + b[k]?.getD 0 * f)
theorem rowTo_len (L : List Nat) (a : Nat) (b : List Nat) (f k : Nat) : (rowTo L a b f k).length = L.length := by
  induction k with
  | zero => rfl
  | succ k ih => simp [rowTo, ih]
theorem rowTo_far (L : List Nat) (a : Nat) (b : List Nat) (f k i : Nat) (hi : a + k ≤ i) : (rowTo L a b f k)[i]? = L[i]? := by
  induction k with
  | zero => rfl
  | succ k ih => simp only [rowTo]; rw [List.getElem?_set, if_neg (by omega)]; exact ih (by omega)
theorem rowTo_val (L : List Nat) (a : Nat) (b : List Nat) (f k : Nat) (hk : k ≤ b.length) (ha : a + b.length ≤ L.length) : v9 (rowTo L a b f k) = v9 L + 1000000000 ^ a * (f * v9 (b.take k)) := by
  induction k with
  | zero => simp [rowTo, v9]
  | succ k ih =>
    have hkb : k < b.length := by omega
    have hl : a + k < (rowTo L a b f k).length := by rw [rowTo_len]; omega
    have hs := v9_set (rowTo L a b f k) (a + k) ((rowTo L a b f k)[a + k] + b[k] * f) hl
    have e : rowTo L a b f (k + 1) = (rowTo L a b f k).set (a + k) ((rowTo L a b f k)[a + k] + b[k] * f) := by simp [rowTo, hl, hkb]
    rw [e, v9_take b k hkb]
    rw [ih (by omega), Nat.mul_add (1000000000 ^ (a + k))] at hs
    have e2 : 1000000000 ^ a * (f * (v9 (b.take k) + 1000000000 ^ k * b[k])) = 1000000000 ^ a * (f * v9 (b.take k)) + 1000000000 ^ (a + k) * (b[k] * f) := by
      rw [Nat.mul_add, Nat.mul_add, Nat.pow_add]
      congr 1
      rw [Nat.mul_comm (b[k]) f, Nat.mul_left_comm f, Nat.mul_assoc]
    rw [e2]
    omega
def Bd (L : List Nat) (M : Nat) : Prop := ∀ x ∈ L, x ≤ M
theorem rowTo_bd {L : List Nat} {a : Nat} {b : List Nat} {f M N : Nat} (hL : Bd L M) (hb : Bd b N) (k : Nat) : Bd (rowTo L a b f k) (M + N * f) := by
  have key : ∀ (i x : Nat), (rowTo L a b f k)[i]? = some x → x ≤ M + N * f := by
    induction k with
    | zero => intro i x hx; have := hL x (List.mem_of_getElem? hx); omega
    | succ k ih =>
      intro i x hx
      simp only [rowTo] at hx
      rw [List.getElem?_set] at hx
      by_cases e : a + k = i
      · rw [if_pos e] at hx
        split at hx
        · simp at hx
          rw [rowTo_far L a b f k (a + k) (Nat.le_refl _)] at hx
          have h1 : L[a + k]?.getD 0 ≤ M := by
            cases h : L[a + k]? with
            | none => simp
            | some y => simpa using hL y (List.mem_of_getElem? h)
          have h2 : b[k]?.getD 0 ≤ N := by
            cases h : b[k]? with
            | none => simp
            | some y => simpa using hb y (List.mem_of_getElem? h)
          have h3 : b[k]?.getD 0 * f ≤ N * f := Nat.mul_le_mul_right _ h2
          omega
        · cases hx
      · rw [if_neg e] at hx
        exact ih i x hx
  intro x hx
  obtain ⟨i, hi⟩ := List.getElem?_of_mem hx
  exact key i x hi
theorem Bd.at {L : List Nat} {M k : Nat} (h : Bd L M) (hk : k < L.length) : L[k] ≤ M := h _ (List.getElem_mem hk)
theorem D9.bd {L : List Nat} (h : D9 L) : Bd L 999999999 := fun x hx => by have := h x hx; omega
theorem Bd.d9 {L : List Nat} (h : Bd L 999999999) : D9 L := fun x hx => by have := h x hx; omega
/-- Carries: the limbs ahead of k, and what is carried on. -/
def carTo (L : List Nat) : Nat → List Nat × Nat
  | 0 => (L, 0)
  | k + 1 => let c := carTo L k; (c.1.set k ((c.1[k]?.getD 0 + c.2) % 1000000000), (c.1[k]?.getD 0 + c.2) / 1000000000)
theorem carTo_len (L : List Nat) (k : Nat) : (carTo L k).1.length = L.length := by
  induction k with
  | zero => rfl
  | succ k ih => simp [carTo, ih]
theorem carTo_far (L : List Nat) (k i : Nat) (hi : k ≤ i) : (carTo L k).1[i]? = L[i]? := by
  induction k with
  | zero => rfl
  | succ k ih => simp only [carTo]; rw [List.getElem?_set, if_neg (by omega)]; exact ih (by omega)
theorem carTo_small (L : List Nat) (k i x : Nat) (hi : i < k) (hx : (carTo L k).1[i]? = some x) : x < 1000000000 := by
  induction k generalizing x with
  | zero => omega
  | succ k ih =>
    simp only [carTo] at hx
    rw [List.getElem?_set] at hx
    by_cases e : k = i
    · rw [if_pos e] at hx
      split at hx
      · simp at hx; rw [← hx]; exact Nat.mod_lt _ (by omega)
      · cases hx
    · rw [if_neg e] at hx
      exact ih x (by omega) hx
theorem carTo_val (L : List Nat) (k : Nat) (hk : k ≤ L.length) : v9 (carTo L k).1 + 1000000000 ^ k * (carTo L k).2 = v9 L := by
  induction k with
  | zero => simp [carTo]
  | succ k ih =>
    have hl : k < (carTo L k).1.length := by rw [carTo_len]; omega
    have ih' := ih (by omega)
    have hs := v9_set (carTo L k).1 k (((carTo L k).1[k] + (carTo L k).2) % 1000000000) hl
    have e : carTo L (k + 1) = ((carTo L k).1.set k (((carTo L k).1[k] + (carTo L k).2) % 1000000000), ((carTo L k).1[k] + (carTo L k).2) / 1000000000) := by simp [carTo, hl]
    rw [e]
    generalize (carTo L k).1 = A at *
    generalize (carTo L k).2 = c at *
    have hd := Nat.div_add_mod (A[k] + c) 1000000000
    generalize (A[k] + c) / 1000000000 = q at *
    generalize (A[k] + c) % 1000000000 = r at *
    simp only
    have e1 : 1000000000 ^ (k + 1) * q = 1000000000 ^ k * (1000000000 * q) := by rw [Nat.pow_succ, Nat.mul_assoc]
    have e2 : 1000000000 ^ k * (1000000000 * q) + 1000000000 ^ k * r = 1000000000 ^ k * A[k] + 1000000000 ^ k * c := by rw [← Nat.mul_add, hd, Nat.mul_add]
    rw [e1]
    omega
theorem carTo_over {L : List Nat} {M : Nat} (hL : Bd L M) (hM : M ≤ 17000000000000000000) (k : Nat) : (carTo L k).2 ≤ 18000000000 := by
  induction k with
  | zero => simp [carTo]
  | succ k ih =>
    simp only [carTo]
    have : (carTo L k).1[k]?.getD 0 ≤ M := by
      rw [carTo_far L k k (Nat.le_refl _)]
      cases h : L[k]? with
      | none => simp
      | some y => simpa using hL y (List.mem_of_getElem? h)
    omega
theorem car_end {L : List Nat} {k : Nat} (hk : k = L.length) (hv : v9 L < 1000000000 ^ L.length) : D9 (carTo L k).1 ∧ v9 (carTo L k).1 = v9 L := by
  subst hk
  have h := carTo_val L L.length (Nat.le_refl _)
  have h0 : (carTo L L.length).2 = 0 := by
    refine Nat.eq_zero_of_not_pos fun hp => ?_
    have : 1000000000 ^ L.length * 1 ≤ 1000000000 ^ L.length * (carTo L L.length).2 := Nat.mul_le_mul_left _ hp
    omega
  rw [h0] at h
  refine ⟨fun d hd => ?_, by omega⟩
  obtain ⟨i, hi⟩ := List.getElem?_of_mem hd
  have hil := (List.getElem?_eq_some_iff.1 hi).1
  rw [carTo_len] at hil
  exact carTo_small L L.length i d hil hi
/-- Noughts on top. -/
theorem strip9 (l : List Nat) (n : Nat) (hn : n ≤ l.length) (hz : v9 (l.take n) = v9 l) (ht : n = 0 ∨ ∃ h : n - 1 < l.length, l[n - 1] ≠ 0) : T9 (l.take n) := by
  intro d hd
  rcases ht with rfl | ⟨h, hne⟩
  · simp at hd
  · by_cases h0 : n = 0
    · subst h0; simp at hd
    · rw [List.getLast?_take, if_neg h0] at hd
      rw [List.getElem?_eq_getElem h] at hd
      simp at hd
      rw [← hd]; exact hne
end Go.Proofs.YtmnfndpbblpjiaaGreatDoor.Pu
