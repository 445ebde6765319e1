/- The program's wantedAhead. -/
import Derived.BigRegion
import Derived.Test.YtmnfndpbblpjiaaDoorZd10
import Derived.Test.YtmnfndpbblpjiaaDoorZd04
namespace Go.Proofs.YtmnfndpbblpjiaaDoor
open Go.RowKit Pu

theorem results_one {fn : Func} {p : Tmp} {ty : TypeId} (h : fn.results = #[.cell p ty]) (tmps : Array Value) (P : Program) (w : World) :
    (results fn tmps).run P w = ((asAddr (tmps.getD p undef)).run P w).andThen fun a w₁ => (loadVar ty a).run P w₁ := by
  simp only [results, h]
  simp [Sem.run_bind, Result.andThen]
theorem mupd (M : Nat → Bool) (r : Nat) (b : Bool) : (mcells M).setIfInBounds r (.bool b) = mcells (upd r b M) := mcells_set M r b

/-- The step, its marks and the result's place. -/
def AS (w wX : World) (t : Stp) (M : Nat → Bool) : Prop :=
  wX.heap[w.heap.size]? = some (.cells #[.int .u8 t.op, .int .u8 t.x, .int .u8 t.y, .int .u8 t.z] 52 (0, 0)) ∧ wX.heap[w.heap.size + 1]? = some (.cells (mcells M) 50 (0, 0)) ∧
  wX.heap[w.heap.size + 1 + 1]? = some (.cells Tryd.zeroCells50 50 (0, 0)) ∧ Mod (fun _ => False) w wX
theorem AS.set {w wX : World} {t : Stp} {M : Nat → Bool} (h : AS w wX t M) (r : Nat) (v : Bool) : AS w (wX.setCell ⟨w.heap.size + 1, r, none⟩ (.bool v)) t (upd r v M) := by
  obtain ⟨h1, h2, h3, h4⟩ := h
  have hm : Mod (fun q => q = w.heap.size + 1) wX (wX.setCell ⟨w.heap.size + 1, r, none⟩ (.bool v)) := (Mod.refl _ wX).setCell ⟨w.heap.size + 1, r, none⟩ (.bool v) (fun _ => rfl)
  exact ⟨hm.keep h1 (by omega), mset r v h2, hm.keep h3 (by omega), h4.setCell ⟨w.heap.size + 1, r, none⟩ (.bool v) (fun h => absurd h (by show ¬ w.heap.size + 1 < w.heap.size; omega))⟩
theorem AS.drew {w wX : World} {t : Stp} {M : Nat → Bool} (h : AS w wX t M) : AS w wX.drew t M := ⟨h.1, h.2.1, h.2.2.1, h.2.2.2.drew⟩
theorem AS.mx {w wX : World} {t : Stp} {M : Nat → Bool} (h : AS w wX t M) {r : Nat} (hr : r < 256) : wX.cell? ⟨w.heap.size + 1, r, none⟩ = some (.bool (M r)) ∧ wX.frozen? ⟨w.heap.size + 1, r, none⟩ = false := by
  refine ⟨?_, fz3 h.2.1 r⟩
  have := mcells_at M hr
  simp only [World.cell?, h.2.1]; simpa using this
theorem setRow_at {w : World} {b : Nat} {C C' : Array Value} {t : TypeId} (h : w.heap[b]? = some (.cells C t (0, 0))) : (w.setRow b C').heap[b]? = some (.cells C' t (0, 0)) := by
  simp [World.setRow, Array.getElem?_modify, h]
theorem setRow_mod (w : World) (b : Nat) (C : Array Value) : Mod (fun q => q = b) w (w.setRow b C) :=
  ⟨rfl, rfl, rfl, by simp [World.setRow], fun k _ hk => by simp only [World.setRow]; rw [Array.getElem?_modify, if_neg (fun h => hk h.symm)]⟩
theorem setRow_new {w wX : World} {b : Nat} {C : Array Value} (h : Mod (fun _ => False) w wX) (hb : w.heap.size ≤ b) : Mod (fun _ => False) w (wX.setRow b C) := by
  have := (h.mono (q := fun q => q = b) (fun _ _ f => f.elim)).trans (setRow_mod wX b C)
  exact this.mono (fun k hk e => by omega)

set_option maxHeartbeats 800000 in
set_option maxRecDepth 4000 in
theorem ahead_any (t : Stp) (M : Nat → Bool) (w : World) (ht : Small t) : Calls Tryd.prog 34 #[stV t, .agg (mcells M)] w fun e w' => e = .returned (.agg (mcells (wAhead t M))) ∧ Mod (fun _ => False) w w' := by
  obtain ⟨h1, h2, h3, h4⟩ := ht
  have ix : (t.x : Int) < 256 := by omega
  have iy : (t.y : Int) < 256 := by omega
  have iz : (t.z : Int) < 256 := by omega
  have hsz := mcells_size M
  have HZS : Hid (Tryd.zeroCells50.size = 256) := Tryd.zeroCells50_size
  have HW : Hid (wAhead t M = if rz t.op then upd t.z true (if ry t.op then upd t.y true (upd t.x (!decide (t.op ≤ 5)) M) else upd t.x (!decide (t.op ≤ 5)) M)
    else (if ry t.op then upd t.y true (upd t.x (!decide (t.op ≤ 5)) M) else upd t.x (!decide (t.op ≤ 5)) M)) := rfl
  generalize wAhead t M = A at *
  have hsx := fun w => setsx_any t.op w h1
  have hry := fun w => readsy_any t.op w h1
  have hrz := fun w => readsz_any t.op w h1
  generalize decide (t.op ≤ 5) = b5 at *
  generalize ry t.op = py at *
  generalize rz t.op = pz at *
  have hA0 : AS w (((w.alloc (.cells #[.int .u8 t.op, .int .u8 t.x, .int .u8 t.y, .int .u8 t.z] 52)).alloc (.cells (mcells M) 50)).alloc (.cells Tryd.zeroCells50 50)) t M := by
    obtain ⟨a1, a2, a3⟩ := alloc3_at w (.cells #[.int .u8 t.op, .int .u8 t.x, .int .u8 t.y, .int .u8 t.z] 52) (.cells (mcells M) 50) (.cells Tryd.zeroCells50 50)
    exact ⟨a1, a2, a3, (((Mod.refl _ w).alloc _).alloc _).alloc _⟩
  go_enter Tryd.func34, Tryd.ntmps34
  go_wp2_with fail
  generalize ((w.alloc (.cells #[.int .u8 t.op, .int .u8 t.x, .int .u8 t.y, .int .u8 t.z] 52)).alloc (.cells (mcells M) 50)).alloc (.cells Tryd.zeroCells50 50) = w0 at *
  obtain ⟨c0, c1, c2, c3⟩ := cells4 hA0.1
  obtain ⟨mx, fx⟩ := hA0.mx h2
  have hA1 := (hA0.set t.x (!b5)).drew
  clear hA0
  go_region_held3 (fun w' => w'.cell? ⟨w.heap.size, 0, none⟩ = some (.int .u8 t.op) ∧ w'.cell? ⟨w.heap.size, 1, none⟩ = some (.int .u8 t.x)) (go_keep) ((go_at_call 23; refine (hsx _).mono ?_; rintro e w3 ⟨rfl, rfl⟩))
  clear c0 c1 c2 c3 mx fx hsx
  generalize (w0.setCell ⟨w.heap.size + 1, t.x, none⟩ (.bool !b5)).drew = w1 at *
  generalize upd t.x (!b5) M = M1 at *
  obtain ⟨c0, c1, c2, c3⟩ := cells4 hA1.1
  obtain ⟨my, fy⟩ := hA1.mx h3
  have hA2 : AS w (if py then w1.setCell ⟨w.heap.size + 1, t.y, none⟩ (.bool true) else w1) t (if py then upd t.y true M1 else M1) := by
    cases py
    · exact hA1
    · exact hA1.set t.y true
  clear hA1
  have hA2' : ∃ w2 M2, (if py then w1.setCell ⟨w.heap.size + 1, t.y, none⟩ (.bool true) else w1) = w2 ∧ (if py then upd t.y true M1 else M1) = M2 := ⟨_, _, rfl, rfl⟩
  obtain ⟨w2, M2, e2, f2⟩ := hA2'
  rw [e2, f2] at hA2
  rw [f2] at HW
  have hend : ∀ (wF : World) (F : Nat → Bool), AS w wF t F → A = F → Mod (fun _ => False) w (wF.setRow (w.heap.size + 1 + 1) (mcells F)) ∧ (loadVar 50 ⟨w.heap.size + 1 + 1, 0, none⟩).run Tryd.prog (wF.setRow (w.heap.size + 1 + 1) (mcells F)) = .ok (.agg (mcells A)) (wF.setRow (w.heap.size + 1 + 1) (mcells F)) := fun wF F h e => by
    subst e
    exact ⟨setRow_new h.2.2.2 (by omega), run_loadVar_row _ _ _ _ _ (0, 0) _ (setRow_at h.2.2.1) Tryd.underlying50 rfl (marks_size (mcells_size _))⟩
  have HEND : Hid _ := hend
  clear hend
  cases py
  · simp only [Bool.false_eq_true, if_false] at e2
    subst e2
    clear f2 my fy
    go_wp2_with (go_at_call 35; refine (hry _).mono ?_; rintro e w3 ⟨rfl, rfl⟩)
    refine (hrz _).mono ?_
    rintro e w3 ⟨rfl, rfl⟩
    cases pz
    · simp only [Bool.false_eq_true, if_false] at HW
      have hF := hA2
      have HQ : Hid _ := HEND.out w1 M2 hF HW.out
      have HF1 : Hid _ := hF.2.1
      have HF2 : Hid _ := hF.2.2.1
      clear hF
      go_wp2_with (first
        | (refine wpList_load_row rfl 50 _ rfl _ rfl (mcells M2) 50 (0, 0) ?hb0 _ Tryd.underlying50 rfl (marks_size (mcells_size _)) ?_; case hb0 => exact HF1.out)
        | (refine wpList_store_row rfl 50 _ _ rfl _ Tryd.zeroCells50 (mcells M2) 50 rfl rfl ?hb1 (marks_size (mcells_size _)) (by rw [mcells_size]; exact HZS.out) (mcells_one _) ?_; case hb1 => exact HF2.out))
      refine bodyPost_ret (v := .agg (mcells A)) ?_ rfl ⟨rfl, HQ.out.1⟩
      rw [results_one Tryd.results34]
      simp [asAddr, Result.andThen, HQ.out.2, Act.put]
    · simp only [if_true] at HW
      obtain ⟨mz, fz⟩ := hA2.mx h4
      have hF := hA2.set t.z true
      have HQ : Hid _ := HEND.out (w1.setCell ⟨w.heap.size + 1, t.z, none⟩ (.bool true)) (upd t.z true M2) hF HW.out
      have HF1 : Hid _ := hF.2.1
      have HF2 : Hid _ := hF.2.2.1
      clear hF
      go_wp2_with (first
        | (refine wpList_load_row rfl 50 _ rfl _ rfl (mcells (upd t.z true M2)) 50 (0, 0) ?hb0 _ Tryd.underlying50 rfl (marks_size (mcells_size _)) ?_; case hb0 => exact HF1.out)
        | (refine wpList_store_row rfl 50 _ _ rfl _ Tryd.zeroCells50 (mcells (upd t.z true M2)) 50 rfl rfl ?hb1 (marks_size (mcells_size _)) (by rw [mcells_size]; exact HZS.out) (mcells_one _) ?_; case hb1 => exact HF2.out))
      refine bodyPost_ret (v := .agg (mcells A)) ?_ rfl ⟨rfl, HQ.out.1⟩
      rw [results_one Tryd.results34]
      simp [asAddr, Result.andThen, HQ.out.2, Act.put]
  · simp only [if_true] at e2
    obtain ⟨d0, d1, d2, d3⟩ := cells4 hA2.1
    clear f2
    go_wp2_with (go_at_call 35; refine (hry _).mono ?_; rintro e w3 ⟨rfl, rfl⟩)
    clear e2 my fy c0 c1 c2 c3
    refine (hrz _).mono ?_
    rintro e w3 ⟨rfl, rfl⟩
    cases pz
    · simp only [Bool.false_eq_true, if_false] at HW
      have hF := hA2
      have HQ : Hid _ := HEND.out w2 M2 hF HW.out
      have HF1 : Hid _ := hF.2.1
      have HF2 : Hid _ := hF.2.2.1
      clear hF
      go_wp2_with (first
        | (refine wpList_load_row rfl 50 _ rfl _ rfl (mcells M2) 50 (0, 0) ?hb0 _ Tryd.underlying50 rfl (marks_size (mcells_size _)) ?_; case hb0 => exact HF1.out)
        | (refine wpList_store_row rfl 50 _ _ rfl _ Tryd.zeroCells50 (mcells M2) 50 rfl rfl ?hb1 (marks_size (mcells_size _)) (by rw [mcells_size]; exact HZS.out) (mcells_one _) ?_; case hb1 => exact HF2.out))
      refine bodyPost_ret (v := .agg (mcells A)) ?_ rfl ⟨rfl, HQ.out.1⟩
      rw [results_one Tryd.results34]
      simp [asAddr, Result.andThen, HQ.out.2, Act.put]
    · simp only [if_true] at HW
      obtain ⟨mz, fz⟩ := hA2.mx h4
      have hF := hA2.set t.z true
      have HQ : Hid _ := HEND.out (w2.setCell ⟨w.heap.size + 1, t.z, none⟩ (.bool true)) (upd t.z true M2) hF HW.out
      have HF1 : Hid _ := hF.2.1
      have HF2 : Hid _ := hF.2.2.1
      clear hF
      go_wp2_with (first
        | (refine wpList_load_row rfl 50 _ rfl _ rfl (mcells (upd t.z true M2)) 50 (0, 0) ?hb0 _ Tryd.underlying50 rfl (marks_size (mcells_size _)) ?_; case hb0 => exact HF1.out)
        | (refine wpList_store_row rfl 50 _ _ rfl _ Tryd.zeroCells50 (mcells (upd t.z true M2)) 50 rfl rfl ?hb1 (marks_size (mcells_size _)) (by rw [mcells_size]; exact HZS.out) (mcells_one _) ?_; case hb1 => exact HF2.out))
      refine bodyPost_ret (v := .agg (mcells A)) ?_ rfl ⟨rfl, HQ.out.1⟩
      rw [results_one Tryd.results34]
      simp [asAddr, Result.andThen, HQ.out.2, Act.put]
end Go.Proofs.YtmnfndpbblpjiaaDoor

/- The document's Needed. -/
namespace Go.Proofs.YtmnfndpbblpjiaaDoor
open Go.RowKit Pu

theorem Tryd.info4 : (Tryd.prog.info? 4).map (fun i => (i.zero, i.size, i.bytes)) = some (some (.bool false), 1, 1) := by kernel_rfl
def tvs (l : List Bool) : List Value := l.map fun b => Value.bool b
theorem tvs_set (d : List Bool) (k : Nat) (x : Bool) : (tvs d).set k (.bool x) = tvs (d.set k x) := by simp [tvs, List.map_set]
theorem made_false (n : Nat) : (madeCells #[Value.bool false] (n * 1)).toList = tvs (List.replicate n false) := by rw [toList_madeCells_one]; simp [tvs]
theorem tvs_cell {w : World} {base n : Nat} {ao : Option Addr} {cap : Nat} {l : List Bool} (h : w.ownsRow base 4 1 (.slice ao n cap) n (tvs l)) (hn : n = l.length) {k : Nat} (hk : k < l.length) :
    ∃ gb, ao = some ⟨gb, 0, none⟩ ∧ w.cell? ⟨gb, k, none⟩ = some (.bool l[k]) := by
  subst hn
  obtain ⟨gb, rfl, hc⟩ := owns_cell h (j := k) (by omega)
  exact ⟨gb, rfl, by rw [hc]; simp [tvs, hk]⟩

end Go.Proofs.YtmnfndpbblpjiaaDoor

/- The program's neededSteps. -/
namespace Go.Proofs.YtmnfndpbblpjiaaDoor
open Go.RowKit Pu

set_option maxHeartbeats 1600000 in
set_option maxRecDepth 4000 in
theorem need_any (v : Value) (l : List Stp) (base : Nat) (w : World) (hl : l.length ≤ 3000) (hL : PLst w base v l) (hsm : ∀ t ∈ l, Small t) :
    Calls Tryd.prog 27 #[v] w fun e w' => Mod (fun _ => False) w w' ∧ ∃ u, e = .returned u ∧ w'.ownsRow w.heap.size 4 1 u l.length (tvs (neededL l)) := by
  obtain ⟨i0, hi, hz0, hz1, hz2⟩ := info_parts Tryd.info4
  obtain ⟨ao, cap, rfl, -⟩ := owns_form hL
  have HSM : Hid (∀ t ∈ l, Small t) := hsm
  clear hsm
  have HZ : Hid (Tryd.zeroCells50 = mcells (fun _ => false)) := Tryd.marks0
  go_enter Tryd.func27, Tryd.ntmps27
  go_wp2_with (at_make; refine wpList_make_full _ rfl _ _ 58 rfl w.heap.size 4 i0 (.bool false) 1 Tryd.underlying58 hi hz0 hz1 _ _ _ _ l.length rfl rfl (by omega) (by omega) (by rw [hz2]; omega) (by unfold maxLen; omega) (by simp) ?_)
  intro W hown0 hgrow0
  have hm0 := (Mod.refl (fun _ => False) w).grown hgrow0 (fun k hk _ => by cases hk)
  have hown1 : W.ownsRow w.heap.size 4 1 (.slice (some ⟨w.heap.size, 0, none⟩) l.length l.length) l.length (tvs (toldTo l l.length)) := by
    rw [toldTo_start, ← made_false]; simpa using hown0
  have hwl : w.heap.size < W.heap.size := (hown1.lt w.heap.size rfl).2
  clear hgrow0 hown0
  have hown2 := owns_mod hown1 ((Mod.refl (fun _ => False) W).alloc (.cells Tryd.zeroCells50 50)) (fun _ _ f => f)
  have hmb : (W.alloc (.cells Tryd.zeroCells50 50)).heap[W.heap.size]? = some (.cells (mcells (fun _ => false)) 50 (0, 0)) := by rw [← HZ.out]; exact heap_alloc_new W _
  have hm1 := hm0.alloc (.cells Tryd.zeroCells50 50)
  have HH : Hid _ := And.intro hown2 (And.intro hmb hm1)
  have hmW := hm0.size
  clear hown2 hmb hm1 hown1 hm0
  go_wp2_with fail
  go_loopw [5] (fun kv wr => ∃ (k : Nat) (nd : List Bool) (M : Nat → Bool), k ≤ l.length ∧ kv = .int .i64 ((k : Int) - 1) ∧ NInv l k nd M ∧ wr.ownsRow w.heap.size 4 1 (.slice (some ⟨w.heap.size, 0, none⟩) l.length l.length) l.length (tvs (toldTo l k)) ∧ wr.heap[W.heap.size]? = some (.cells (mcells M) 50 (0, 0)) ∧ Mod (fun _ => False) w wr) (fun kv _ => (intOf kv + 1).toNat)
  case atStart => exact ⟨l.length, _, _, by omega, rfl, NInv.start l, HH.out.1, HH.out.2.1, HH.out.2.2⟩
  case round =>
    clear HH
    obtain ⟨k, nd, M, hk, rfl, hN, hown, hM, hm⟩ := hrel
    cases k with
    | zero =>
      clear hM hN
      rw [toldTo_zero] at hown
      go_wp2_with fail
      go_ret
      exact ⟨hm, _, rfl, hown⟩
    | succ k =>
      have hkl : k < l.length := by omega
      have e1 : ((k + 1 : Nat) : Int) - 1 = (k : Int) := by omega
      rw [e1]
      clear e1
      have hLr := hL.mod hm
      obtain ⟨gb, rfl, c0, c1, c2, c3⟩ := hLr.cell hkl
      have hs := HSM.out _ (List.getElem_mem hkl)
      obtain ⟨gd, hgd, cd⟩ := tvs_cell hown (by rw [toldTo_len l _ (by omega)]) (k := k) (by rw [toldTo_len l _ (by omega)]; exact hkl)
      injection hgd with hgd
      injection hgd with hgd
      subst hgd
      have fd := hown.frozenAt k
      have hst : ∀ b, (neededL l)[k]? = some b → (wr.setCell ⟨w.heap.size, k, none⟩ (.bool b)).ownsRow w.heap.size 4 1 (.slice (some ⟨w.heap.size, 0, none⟩) l.length l.length) l.length (tvs (toldTo l k)) := fun b hb => by
        rw [← toldTo_step hkl hb, ← tvs_set]; exact (hown.stored k (.bool b)).1
      have HVAL : Hid ((neededL l)[k]? = some (pN l[k] M)) := hN.val hkl
      have HYES : Hid (pN l[k] M = true → NInv l k (needStep l k nd) (wAhead l[k] M)) := fun h => hN.yes hkl h
      have HNO : Hid (pN l[k] M = false → NInv l k (needStep l k nd) M) := fun h => hN.no hkl h
      generalize l[k] = t at *
      have hah := fun w => ahead_any t M w hs
      have hsx := fun w => setsx_any t.op w hs.1
      have mx : wr.cell? ⟨W.heap.size, t.x, none⟩ = some (.bool (M t.x)) := by
        have := mcells_at M hs.2.1
        simp only [World.cell?, hM]; simpa using this
      have hWl := lt_of_block hM
      have ix : (t.x : Int) < 256 := by have := hs.2.1; omega
      have HPN : Hid (pN t M = (!decide (t.op ≤ 5) || M t.x)) := rfl
      have hne : ¬ w.heap.size = W.heap.size := by omega
      generalize decide (t.op ≤ 5) = b5 at *
      generalize hmx : M t.x = bx at *
      clear hmx hLr
      cases b5 with
      | false =>
        have hp : pN t M = true := by rw [HPN.out]; rfl
        have HV : Hid _ := hst true (by rw [HVAL.out, hp])
        have hN2 := HYES.out hp
        have hms : Mod (fun q => q = w.heap.size) wr (wr.setCell ⟨w.heap.size, k, none⟩ (.bool true)) := (Mod.refl _ wr).setCell ⟨w.heap.size, k, none⟩ (.bool true) (fun _ => rfl)
        have hmw2 : Mod (fun _ => False) w ((wr.setCell ⟨w.heap.size, k, none⟩ (.bool true)).alloc (.cells #[.int .u8 t.op, .int .u8 t.x, .int .u8 t.y, .int .u8 t.z] 52)) := (hm.setCell ⟨w.heap.size, k, none⟩ (.bool true) (fun h => absurd h (Nat.lt_irrefl _))).alloc _
        have HMA : Hid (((wr.setCell ⟨w.heap.size, k, none⟩ (.bool true)).alloc (.cells #[.int .u8 t.op, .int .u8 t.x, .int .u8 t.y, .int .u8 t.z] 52)).heap[W.heap.size]? = some (.cells (mcells M) 50 (0, 0))) := (hms.alloc _).keep hM (by omega)
        have hwr : w.heap.size < wr.heap.size := by omega
        clear hms hst hN hp hown hm HYES HNO hM
        go_wp2_with (first
          | (go_at_call 23; refine (hsx _).mono ?_; rintro e w3 ⟨rfl, rfl⟩)
          | (refine wpList_load_row rfl 50 _ rfl _ rfl (mcells M) 50 (0, 0) ?hb0 _ Tryd.underlying50 rfl (marks_size (mcells_size _)) ?_; case hb0 => exact HMA.out))
        refine (hah _).mono ?_
        rintro e w3 ⟨rfl, hm3⟩
        have HM3 : Hid _ := hm3.keep HMA.out (fun f => f)
        have hmw3 := hmw2.trans hm3
        have hown3 : (w3.setRow W.heap.size (mcells (wAhead t M))).ownsRow w.heap.size 4 1 (.slice (some ⟨w.heap.size, 0, none⟩) l.length l.length) l.length (tvs (toldTo l k)) :=
          owns_mod' (owns_mod (owns_mod HV.out ((Mod.refl (fun _ => False) _).alloc _) (fun _ _ f => f)) hm3 (fun _ _ f => f)) (setRow_mod w3 W.heap.size (mcells (wAhead t M))) (fun g h1 h2 => by injection h1 with h1; subst h1; exact absurd h2 (by show ¬ w.heap.size = W.heap.size; omega))
        have HM4 : Hid _ := setRow_at (C' := mcells (wAhead t M)) HM3.out
        have hmw4 := setRow_new (C := mcells (wAhead t M)) hmw3 (b := W.heap.size) (by omega)
        clear HV HMA hm3 hmw3 hmw2
        go_wp2_with (refine wpList_store_row rfl 50 _ _ rfl _ (mcells M) (mcells (wAhead t M)) 50 rfl rfl ?hb1 (marks_size (mcells_size _)) (by rw [mcells_size, mcells_size]) (mcells_one _) ?_; case hb1 => exact HM3.out)
        go_roundw
        case rel => exact ⟨k, _, _, by omega, by go_num, hN2, hown3, HM4.out, hmw4⟩
        case measure => simp [intOf]
      | true =>
        cases bx with
        | true =>
          have hp : pN t M = true := by rw [HPN.out]; rfl
          have HV : Hid _ := hst true (by rw [HVAL.out, hp])
          have hN2 := HYES.out hp
          have hms : Mod (fun q => q = w.heap.size) wr (wr.setCell ⟨w.heap.size, k, none⟩ (.bool true)) := (Mod.refl _ wr).setCell ⟨w.heap.size, k, none⟩ (.bool true) (fun _ => rfl)
          have hmw2 : Mod (fun _ => False) w ((wr.setCell ⟨w.heap.size, k, none⟩ (.bool true)).alloc (.cells #[.int .u8 t.op, .int .u8 t.x, .int .u8 t.y, .int .u8 t.z] 52)) := (hm.setCell ⟨w.heap.size, k, none⟩ (.bool true) (fun h => absurd h (Nat.lt_irrefl _))).alloc _
          have HMA : Hid (((wr.setCell ⟨w.heap.size, k, none⟩ (.bool true)).alloc (.cells #[.int .u8 t.op, .int .u8 t.x, .int .u8 t.y, .int .u8 t.z] 52)).heap[W.heap.size]? = some (.cells (mcells M) 50 (0, 0))) := (hms.alloc _).keep hM (by omega)
          have hwr : w.heap.size < wr.heap.size := by omega
          clear hms hst hN hp hown hm HYES HNO hM
          go_wp2_with (first
            | (go_at_call 23; refine (hsx _).mono ?_; rintro e w3 ⟨rfl, rfl⟩)
            | (refine wpList_load_row rfl 50 _ rfl _ rfl (mcells M) 50 (0, 0) ?hb0 _ Tryd.underlying50 rfl (marks_size (mcells_size _)) ?_; case hb0 => exact HMA.out))
          refine (hah _).mono ?_
          rintro e w3 ⟨rfl, hm3⟩
          have HM3 : Hid _ := hm3.keep HMA.out (fun f => f)
          have hmw3 := hmw2.trans hm3
          have hown3 : (w3.setRow W.heap.size (mcells (wAhead t M))).ownsRow w.heap.size 4 1 (.slice (some ⟨w.heap.size, 0, none⟩) l.length l.length) l.length (tvs (toldTo l k)) :=
            owns_mod' (owns_mod (owns_mod HV.out ((Mod.refl (fun _ => False) _).alloc _) (fun _ _ f => f)) hm3 (fun _ _ f => f)) (setRow_mod w3 W.heap.size (mcells (wAhead t M))) (fun g h1 h2 => by injection h1 with h1; subst h1; exact absurd h2 (by show ¬ w.heap.size = W.heap.size; omega))
          have HM4 : Hid _ := setRow_at (C' := mcells (wAhead t M)) HM3.out
          have hmw4 := setRow_new (C := mcells (wAhead t M)) hmw3 (b := W.heap.size) (by omega)
          clear HV HMA hm3 hmw3 hmw2
          go_wp2_with (refine wpList_store_row rfl 50 _ _ rfl _ (mcells M) (mcells (wAhead t M)) 50 rfl rfl ?hb1 (marks_size (mcells_size _)) (by rw [mcells_size, mcells_size]) (mcells_one _) ?_; case hb1 => exact HM3.out)
          go_roundw
          case rel => exact ⟨k, _, _, by omega, by go_num, hN2, hown3, HM4.out, hmw4⟩
          case measure => simp [intOf]
        | false =>
          have hp : pN t M = false := by rw [HPN.out]; rfl
          have hV := hst false (by rw [HVAL.out, hp])
          have hN2 := HNO.out hp
          have hms : Mod (fun q => q = w.heap.size) wr (wr.setCell ⟨w.heap.size, k, none⟩ (.bool false)) := (Mod.refl _ wr).setCell ⟨w.heap.size, k, none⟩ (.bool false) (fun _ => rfl)
          have hmw2 : Mod (fun _ => False) w ((wr.setCell ⟨w.heap.size, k, none⟩ (.bool false)).alloc (.cells #[.int .u8 t.op, .int .u8 t.x, .int .u8 t.y, .int .u8 t.z] 52)) := (hm.setCell ⟨w.heap.size, k, none⟩ (.bool false) (fun h => absurd h (Nat.lt_irrefl _))).alloc _
          have HMA : Hid (((wr.setCell ⟨w.heap.size, k, none⟩ (.bool false)).alloc (.cells #[.int .u8 t.op, .int .u8 t.x, .int .u8 t.y, .int .u8 t.z] 52)).heap[W.heap.size]? = some (.cells (mcells M) 50 (0, 0))) := (hms.alloc _).keep hM (by omega)
          have hV2 := owns_mod hV ((Mod.refl (fun _ => False) _).alloc (.cells #[.int .u8 t.op, .int .u8 t.x, .int .u8 t.y, .int .u8 t.z] 52)) (fun _ _ f => f)
          have hwr : w.heap.size < wr.heap.size := by omega
          clear hms hst hN hp hown hm HYES HNO hM hV
          go_wp2_with (go_at_call 23; refine (hsx _).mono ?_; rintro e w3 ⟨rfl, rfl⟩)
          go_roundw
          case rel => exact ⟨k, _, _, by omega, by go_num, hN2, hV2, HMA.out, hmw2⟩
          case measure => simp [intOf]
end Go.Proofs.YtmnfndpbblpjiaaDoor

/- Codes: the steps that are kept, and the bytes of a code. -/
namespace Go.Proofs.YtmnfndpbblpjiaaDoor.Pu

def stB (t : Stp) : List UInt8 := [UInt8.ofNat t.op, UInt8.ofNat t.x, UInt8.ofNat t.y, UInt8.ofNat t.z]
def keepTo (l : List Stp) (nd : List Bool) : Nat → List Stp
  | 0 => []
  | k + 1 => if nd[k]?.getD false then keepTo l nd k ++ [l[k]?.getD ⟨0, 0, 0, 0⟩] else keepTo l nd k
theorem keepTo_yes {l : List Stp} {nd : List Bool} {k : Nat} (h : k < nd.length) (hl : k < l.length) (hb : nd[k] = true) : keepTo l nd (k + 1) = keepTo l nd k ++ [l[k]] := by simp [keepTo, h, hb, hl]
theorem keepTo_no {l : List Stp} {nd : List Bool} {k : Nat} (h : k < nd.length) (hb : nd[k] = false) : keepTo l nd (k + 1) = keepTo l nd k := by simp [keepTo, h, hb]
theorem keepTo_len (l : List Stp) (nd : List Bool) (k : Nat) : (keepTo l nd k).length = cntTo nd k := by
  induction k with
  | zero => rfl
  | succ k ih => simp only [keepTo, cntTo]; split <;> simp [ih]
theorem keepTo_mem {l : List Stp} {nd : List Bool} {k : Nat} (hk : k ≤ l.length) : ∀ t ∈ keepTo l nd k, t ∈ l := by
  induction k with
  | zero => intro t ht; cases ht
  | succ k ih =>
    intro t ht
    have hl : k < l.length := by omega
    simp only [keepTo] at ht
    split at ht
    · rcases List.mem_append.1 ht with ht | ht
      · exact ih (by omega) t ht
      · simp [hl] at ht; subst ht; exact List.getElem_mem hl
    · exact ih (by omega) t ht
def joined (r i : Nat) (q : List Stp) : List UInt8 := [82, 85, UInt8.ofNat r, UInt8.ofNat i, UInt8.ofNat (q.length % 256), UInt8.ofNat (q.length / 256)] ++ q.flatMap stB
theorem ext4 {s : ByteArray} {a : Nat} (h : a + 4 ≤ s.size) : s.extract a (a + 4) = ⟨[UInt8.ofNat (g s a), UInt8.ofNat (g s (a + 1)), UInt8.ofNat (g s (a + 2)), UInt8.ofNat (g s (a + 3))].toArray⟩ := by
  have h0 : a < s.size := by omega
  have h1 : a + 1 < s.size := by omega
  have h2 : a + 2 < s.size := by omega
  have h3 : a + 3 < s.size := by omega
  rw [g_in h0, g_in h1, g_in h2, g_in h3]
  simp only [UInt8.ofNat_toNat]
  apply ByteArray.ext
  rw [ByteArray.data_extract]
  apply Array.ext
  · have : s.data.size = s.size := rfl
    simp; omega
  · intro i h1' h2'
    have hi : i < 4 := by simpa using h2'
    match i, hi with
    | 0, _ => simp; rfl
    | 1, _ => simp; rfl
    | 2, _ => simp; rfl
    | 3, _ => simp; rfl
theorem app_bytes (x y : List UInt8) : (⟨x.toArray⟩ : ByteArray) ++ (⟨y.toArray⟩ : ByteArray) = ⟨(x ++ y).toArray⟩ := by
  apply ByteArray.ext
  rw [ByteArray.data_append]
  simp
theorem body_bytes {s : ByteArray} (nd : List Bool) (hs : s.size = 6 + 4 * nst s) : ∀ k, k ≤ nst s → bodyTo s nd k = ⟨((keepTo (steps s) nd k).flatMap stB).toArray⟩ := by
  intro k
  induction k with
  | zero => intro _; rfl
  | succ k ih =>
    intro hk
    have hl : k < (steps s).length := by rw [steps, stepsTo_len]; omega
    simp only [bodyTo, keepTo]
    split
    · rw [ih (by omega), show 10 + 4 * k = (6 + 4 * k) + 4 by omega, ext4 (by omega), app_bytes]
      congr 2
      simp [hl, steps_at, stepAt, stB]
    · exact ih (by omega)
theorem shr_joined {s : ByteArray} (hb : begunB s = true) : shr s = ⟨(joined (g s 2) (g s 3) (keepTo (steps s) (neededL (steps s)) (nst s))).toArray⟩ := by
  obtain ⟨h6, -, -, hs, -, -, -⟩ := nst_of hb
  have h0 : g s 0 = 82 ∧ g s 1 = 85 := by simp [begunB] at hb; omega
  unfold shr joined
  rw [body_bytes _ hs _ (Nat.le_refl _), show s.extract 0 4 = s.extract 0 (0 + 4) by rfl, ext4 (by omega), keepTo_len, h0.1, show g s (0 + 1) = 85 from h0.2]
  rw [show (⟨#[UInt8.ofNat (cntTo (neededL (steps s)) (nst s) % 256), UInt8.ofNat (cntTo (neededL (steps s)) (nst s) / 256)]⟩ : ByteArray) = ⟨[UInt8.ofNat (cntTo (neededL (steps s)) (nst s) % 256), UInt8.ofNat (cntTo (neededL (steps s)) (nst s) / 256)].toArray⟩ by rfl, app_bytes, app_bytes]
  rfl
end Go.Proofs.YtmnfndpbblpjiaaDoor.Pu
