/- The program's neededSteps. -/
import Derived.Test.YtmnfndpbblpjiaaGreatDoorSh1
import Derived.Test.YtmnfndpbblpjiaaGreatDoorRs1
namespace Go.Proofs.YtmnfndpbblpjiaaGreatDoor
open Go.RowKit Pu

set_option maxHeartbeats 1600000 in
set_option maxRecDepth 4000 in
theorem need_any (v : Value) (l : List Stp) (base : Nat) (w : World) (hl : l.length ≤ 3000) (hL : PLst w base v l) (hsm : ∀ t ∈ l, Small t) :
    Calls Tryz.prog 79 #[v] w fun e w' => Mod (fun _ => False) w w' ∧ ∃ u, e = .returned u ∧ w'.ownsRow w.heap.size 4 1 u l.length (tvs (neededL l)) := by
  obtain ⟨i0, hi, hz0, hz1, hz2⟩ := info_parts Tryz.info4
  obtain ⟨ao, cap, rfl, -⟩ := owns_form hL
  have HSM : Hid (∀ t ∈ l, Small t) := hsm
  clear hsm
  have HZ : Hid (Tryz.zeroCells105 = mcells (fun _ => false)) := Tryz.marks0
  go_enter Tryz.func79, Tryz.ntmps79
  go_wp2_with (at_make; refine wpList_make_full _ rfl _ _ 73 rfl w.heap.size 4 i0 (.bool false) 1 Tryz.underlying73 hi hz0 hz1 _ _ _ _ l.length rfl rfl (by omega) (by omega) (by rw [hz2]; omega) (by unfold maxLen; omega) (by simp) ?_)
  intro W hown0 hgrow0
  have hm0 := (Mod.refl (fun _ => False) w).grown hgrow0 (fun k hk _ => by cases hk)
  have hown1 : W.ownsRow w.heap.size 4 1 (.slice (some ⟨w.heap.size, 0, none⟩) l.length l.length) l.length (tvs (toldTo l l.length)) := by
    rw [toldTo_start, ← made_false]; simpa using hown0
  have hwl : w.heap.size < W.heap.size := (hown1.lt w.heap.size rfl).2
  clear hgrow0 hown0
  have hown2 := owns_mod hown1 ((Mod.refl (fun _ => False) W).alloc (.cells Tryz.zeroCells105 105)) (fun _ _ f => f)
  have hmb : (W.alloc (.cells Tryz.zeroCells105 105)).heap[W.heap.size]? = some (.cells (mcells (fun _ => false)) 105 (0, 0)) := by rw [← HZ.out]; exact heap_alloc_new W _
  have hm1 := hm0.alloc (.cells Tryz.zeroCells105 105)
  have HH : Hid _ := And.intro hown2 (And.intro hmb hm1)
  have hmW := hm0.size
  clear hown2 hmb hm1 hown1 hm0
  go_wp2_with fail
  go_loopw [5] (fun kv wr => ∃ (k : Nat) (nd : List Bool) (M : Nat → Bool), k ≤ l.length ∧ kv = .int .i64 ((k : Int) - 1) ∧ NInv l k nd M ∧ wr.ownsRow w.heap.size 4 1 (.slice (some ⟨w.heap.size, 0, none⟩) l.length l.length) l.length (tvs (toldTo l k)) ∧ wr.heap[W.heap.size]? = some (.cells (mcells M) 105 (0, 0)) ∧ Mod (fun _ => False) w wr) (fun kv _ => (intOf kv + 1).toNat)
  case atStart => exact ⟨l.length, _, _, by omega, rfl, NInv.start l, HH.out.1, HH.out.2.1, HH.out.2.2⟩
  case round =>
    clear HH
    obtain ⟨k, nd, M, hk, rfl, hN, hown, hM, hm⟩ := hrel
    cases k with
    | zero =>
      clear hM hN
      rw [toldTo_zero] at hown
      go_wp2_with fail
      go_ret
      exact ⟨hm, _, rfl, hown⟩
    | succ k =>
      have hkl : k < l.length := by omega
      have e1 : ((k + 1 : Nat) : Int) - 1 = (k : Int) := by omega
      rw [e1]
      clear e1
      have hLr := hL.mod hm
      obtain ⟨gb, rfl, c0, c1, c2, c3⟩ := hLr.cell hkl
      have hs := HSM.out _ (List.getElem_mem hkl)
      obtain ⟨gd, hgd, cd⟩ := tvs_cell hown (by rw [toldTo_len l _ (by omega)]) (k := k) (by rw [toldTo_len l _ (by omega)]; exact hkl)
      injection hgd with hgd
      injection hgd with hgd
      subst hgd
      have fd := hown.frozenAt k
      have hst : ∀ b, (neededL l)[k]? = some b → (wr.setCell ⟨w.heap.size, k, none⟩ (.bool b)).ownsRow w.heap.size 4 1 (.slice (some ⟨w.heap.size, 0, none⟩) l.length l.length) l.length (tvs (toldTo l k)) := fun b hb => by
        rw [← toldTo_step hkl hb, ← tvs_set]; exact (hown.stored k (.bool b)).1
      have HVAL : Hid ((neededL l)[k]? = some (pN l[k] M)) := hN.val hkl
      have HYES : Hid (pN l[k] M = true → NInv l k (needStep l k nd) (wAhead l[k] M)) := fun h => hN.yes hkl h
      have HNO : Hid (pN l[k] M = false → NInv l k (needStep l k nd) M) := fun h => hN.no hkl h
      generalize l[k] = t at *
      have hah := fun w => ahead_any t M w hs
      have hsx := fun w => setsx_any t.op w hs.1
      have mx : wr.cell? ⟨W.heap.size, t.x, none⟩ = some (.bool (M t.x)) := by
        have := mcells_at M hs.2.1
        simp only [World.cell?, hM]; simpa using this
      have hWl := lt_of_block hM
      have ix : (t.x : Int) < 256 := by have := hs.2.1; omega
      have HPN : Hid (pN t M = (!decide (t.op ≤ 5) || M t.x)) := rfl
      have hne : ¬ w.heap.size = W.heap.size := by omega
      generalize decide (t.op ≤ 5) = b5 at *
      generalize hmx : M t.x = bx at *
      clear hmx hLr
      cases b5 with
      | false =>
        have hp : pN t M = true := by rw [HPN.out]; rfl
        have HV : Hid _ := hst true (by rw [HVAL.out, hp])
        have hN2 := HYES.out hp
        have hms : Mod (fun q => q = w.heap.size) wr (wr.setCell ⟨w.heap.size, k, none⟩ (.bool true)) := (Mod.refl _ wr).setCell ⟨w.heap.size, k, none⟩ (.bool true) (fun _ => rfl)
        have hmw2 : Mod (fun _ => False) w ((wr.setCell ⟨w.heap.size, k, none⟩ (.bool true)).alloc (.cells #[.int .u8 t.op, .int .u8 t.x, .int .u8 t.y, .int .u8 t.z] 107)) := (hm.setCell ⟨w.heap.size, k, none⟩ (.bool true) (fun h => absurd h (Nat.lt_irrefl _))).alloc _
        have HMA : Hid (((wr.setCell ⟨w.heap.size, k, none⟩ (.bool true)).alloc (.cells #[.int .u8 t.op, .int .u8 t.x, .int .u8 t.y, .int .u8 t.z] 107)).heap[W.heap.size]? = some (.cells (mcells M) 105 (0, 0))) := (hms.alloc _).keep hM (by omega)
        have hwr : w.heap.size < wr.heap.size := by omega
        clear hms hst hN hp hown hm HYES HNO hM
        go_wp2_with (first
          | (go_at_call 73; refine (hsx _).mono ?_; rintro e w3 ⟨rfl, rfl⟩)
          | (refine wpList_load_row rfl 105 _ rfl _ rfl (mcells M) 105 (0, 0) ?hb0 _ Tryz.underlying105 rfl (marks_size (mcells_size _)) ?_; case hb0 => exact HMA.out))
        refine (hah _).mono ?_
        rintro e w3 ⟨rfl, hm3⟩
        have HM3 : Hid _ := hm3.keep HMA.out (fun f => f)
        have hmw3 := hmw2.trans hm3
        have hown3 : (w3.setRow W.heap.size (mcells (wAhead t M))).ownsRow w.heap.size 4 1 (.slice (some ⟨w.heap.size, 0, none⟩) l.length l.length) l.length (tvs (toldTo l k)) :=
          owns_mod' (owns_mod (owns_mod HV.out ((Mod.refl (fun _ => False) _).alloc _) (fun _ _ f => f)) hm3 (fun _ _ f => f)) (setRow_mod w3 W.heap.size (mcells (wAhead t M))) (fun g h1 h2 => by injection h1 with h1; subst h1; exact absurd h2 (by show ¬ w.heap.size = W.heap.size; omega))
        have HM4 : Hid _ := setRow_at (C' := mcells (wAhead t M)) HM3.out
        have hmw4 := setRow_new (C := mcells (wAhead t M)) hmw3 (b := W.heap.size) (by omega)
        clear HV HMA hm3 hmw3 hmw2
        go_wp2_with (refine wpList_store_row rfl 105 _ _ rfl _ (mcells M) (mcells (wAhead t M)) 105 rfl rfl ?hb1 (marks_size (mcells_size _)) (by rw [mcells_size, mcells_size]) (mcells_one _) ?_; case hb1 => exact HM3.out)
        go_roundw
        case rel => exact ⟨k, _, _, by omega, by go_num, hN2, hown3, HM4.out, hmw4⟩
        case measure => simp [intOf]
      | true =>
        cases bx with
        | true =>
          have hp : pN t M = true := by rw [HPN.out]; rfl
          have HV : Hid _ := hst true (by rw [HVAL.out, hp])
          have hN2 := HYES.out hp
          have hms : Mod (fun q => q = w.heap.size) wr (wr.setCell ⟨w.heap.size, k, none⟩ (.bool true)) := (Mod.refl _ wr).setCell ⟨w.heap.size, k, none⟩ (.bool true) (fun _ => rfl)
          have hmw2 : Mod (fun _ => False) w ((wr.setCell ⟨w.heap.size, k, none⟩ (.bool true)).alloc (.cells #[.int .u8 t.op, .int .u8 t.x, .int .u8 t.y, .int .u8 t.z] 107)) := (hm.setCell ⟨w.heap.size, k, none⟩ (.bool true) (fun h => absurd h (Nat.lt_irrefl _))).alloc _
          have HMA : Hid (((wr.setCell ⟨w.heap.size, k, none⟩ (.bool true)).alloc (.cells #[.int .u8 t.op, .int .u8 t.x, .int .u8 t.y, .int .u8 t.z] 107)).heap[W.heap.size]? = some (.cells (mcells M) 105 (0, 0))) := (hms.alloc _).keep hM (by omega)
          have hwr : w.heap.size < wr.heap.size := by omega
          clear hms hst hN hp hown hm HYES HNO hM
          go_wp2_with (first
            | (go_at_call 73; refine (hsx _).mono ?_; rintro e w3 ⟨rfl, rfl⟩)
            | (refine wpList_load_row rfl 105 _ rfl _ rfl (mcells M) 105 (0, 0) ?hb0 _ Tryz.underlying105 rfl (marks_size (mcells_size _)) ?_; case hb0 => exact HMA.out))
          refine (hah _).mono ?_
          rintro e w3 ⟨rfl, hm3⟩
          have HM3 : Hid _ := hm3.keep HMA.out (fun f => f)
          have hmw3 := hmw2.trans hm3
          have hown3 : (w3.setRow W.heap.size (mcells (wAhead t M))).ownsRow w.heap.size 4 1 (.slice (some ⟨w.heap.size, 0, none⟩) l.length l.length) l.length (tvs (toldTo l k)) :=
            owns_mod' (owns_mod (owns_mod HV.out ((Mod.refl (fun _ => False) _).alloc _) (fun _ _ f => f)) hm3 (fun _ _ f => f)) (setRow_mod w3 W.heap.size (mcells (wAhead t M))) (fun g h1 h2 => by injection h1 with h1; subst h1; exact absurd h2 (by show ¬ w.heap.size = W.heap.size; omega))
          have HM4 : Hid _ := setRow_at (C' := mcells (wAhead t M)) HM3.out
          have hmw4 := setRow_new (C := mcells (wAhead t M)) hmw3 (b := W.heap.size) (by omega)
          clear HV HMA hm3 hmw3 hmw2
          go_wp2_with (refine wpList_store_row rfl 105 _ _ rfl _ (mcells M) (mcells (wAhead t M)) 105 rfl rfl ?hb1 (marks_size (mcells_size _)) (by rw [mcells_size, mcells_size]) (mcells_one _) ?_; case hb1 => exact HM3.out)
          go_roundw
          case rel => exact ⟨k, _, _, by omega, by go_num, hN2, hown3, HM4.out, hmw4⟩
          case measure => simp [intOf]
        | false =>
          have hp : pN t M = false := by rw [HPN.out]; rfl
          have hV := hst false (by rw [HVAL.out, hp])
          have hN2 := HNO.out hp
          have hms : Mod (fun q => q = w.heap.size) wr (wr.setCell ⟨w.heap.size, k, none⟩ (.bool false)) := (Mod.refl _ wr).setCell ⟨w.heap.size, k, none⟩ (.bool false) (fun _ => rfl)
          have hmw2 : Mod (fun _ => False) w ((wr.setCell ⟨w.heap.size, k, none⟩ (.bool false)).alloc (.cells #[.int .u8 t.op, .int .u8 t.x, .int .u8 t.y, .int .u8 t.z] 107)) := (hm.setCell ⟨w.heap.size, k, none⟩ (.bool false) (fun h => absurd h (Nat.lt_irrefl _))).alloc _
          have HMA : Hid (((wr.setCell ⟨w.heap.size, k, none⟩ (.bool false)).alloc (.cells #[.int .u8 t.op, .int .u8 t.x, .int .u8 t.y, .int .u8 t.z] 107)).heap[W.heap.size]? = some (.cells (mcells M) 105 (0, 0))) := (hms.alloc _).keep hM (by omega)
          have hV2 := owns_mod hV ((Mod.refl (fun _ => False) _).alloc (.cells #[.int .u8 t.op, .int .u8 t.x, .int .u8 t.y, .int .u8 t.z] 107)) (fun _ _ f => f)
          have hwr : w.heap.size < wr.heap.size := by omega
          clear hms hst hN hp hown hm HYES HNO hM hV
          go_wp2_with (go_at_call 73; refine (hsx _).mono ?_; rintro e w3 ⟨rfl, rfl⟩)
          go_roundw
          case rel => exact ⟨k, _, _, by omega, by go_num, hN2, hV2, HMA.out, hmw2⟩
          case measure => simp [intOf]
end Go.Proofs.YtmnfndpbblpjiaaGreatDoor
