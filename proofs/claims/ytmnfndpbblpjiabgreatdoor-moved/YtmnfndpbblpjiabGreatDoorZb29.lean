/- The program's neededSteps. -/
import Derived.Lib.AppendStr
import Derived.Test.YtmnfndpbblpjiabGreatDoorZb19
import Derived.Test.YtmnfndpbblpjiabGreatDoorZb28
import Derived.Test.YtmnfndpbblpjiabGreatDoorZb05
import Derived.Test.YtmnfndpbblpjiabGreatDoorZb17
import Derived.Test.YtmnfndpbblpjiabGreatDoorZb11
namespace Go.Proofs.YtmnfndpbblpjiabGreatDoor
open Go.RowKit Pu

set_option maxHeartbeats 1600000 in
set_option maxRecDepth 4000 in
theorem need_any (v : Value) (l : List Stp) (base : Nat) (w : World) (hl : l.length ≤ 3000) (hL : PLst w base v l) (hsm : ∀ t ∈ l, Small t) :
    Calls Tryz.prog 109 #[v] w fun e w' => Mod (fun _ => False) w w' ∧ ∃ u, e = .returned u ∧ w'.ownsRow w.heap.size 4 1 u l.length (tvs (neededL l)) := by
  obtain ⟨i0, hi, hz0, hz1, hz2⟩ := info_parts Tryz.info4
  obtain ⟨ao, cap, rfl, -⟩ := owns_form hL
  have HSM : Hid (∀ t ∈ l, Small t) := hsm
  clear hsm
  have HZ : Hid (Tryz.zeroCells98 = mcells (fun _ => false)) := Tryz.marks0
  go_enter Tryz.func109, Tryz.ntmps109
  go_wp2_with (at_make; refine wpList_make_full _ rfl _ _ 111 rfl w.heap.size 4 i0 (.bool false) 1 Tryz.underlying111 hi hz0 hz1 _ _ _ _ l.length rfl rfl (by omega) (by omega) (by rw [hz2]; omega) (by unfold maxLen; omega) (by simp) ?_)
  intro W hown0 hgrow0
  have hm0 := (Mod.refl (fun _ => False) w).grown hgrow0 (fun k hk _ => by cases hk)
  have hown1 : W.ownsRow w.heap.size 4 1 (.slice (some ⟨w.heap.size, 0, none⟩) l.length l.length) l.length (tvs (toldTo l l.length)) := by
    rw [toldTo_start, ← made_false]; simpa using hown0
  have hwl : w.heap.size < W.heap.size := (hown1.lt w.heap.size rfl).2
  clear hgrow0 hown0
  have hown2 := owns_mod hown1 ((Mod.refl (fun _ => False) W).alloc (.cells Tryz.zeroCells98 98)) (fun _ _ f => f)
  have hmb : (W.alloc (.cells Tryz.zeroCells98 98)).heap[W.heap.size]? = some (.cells (mcells (fun _ => false)) 98 (0, 0)) := by rw [← HZ.out]; exact heap_alloc_new W _
  have hm1 := hm0.alloc (.cells Tryz.zeroCells98 98)
  have HH : Hid _ := And.intro hown2 (And.intro hmb hm1)
  have hmW := hm0.size
  clear hown2 hmb hm1 hown1 hm0
  go_wp2_with fail
  go_loopw [5] (fun kv wr => ∃ (k : Nat) (nd : List Bool) (M : Nat → Bool), k ≤ l.length ∧ kv = .int .i64 ((k : Int) - 1) ∧ NInv l k nd M ∧ wr.ownsRow w.heap.size 4 1 (.slice (some ⟨w.heap.size, 0, none⟩) l.length l.length) l.length (tvs (toldTo l k)) ∧ wr.heap[W.heap.size]? = some (.cells (mcells M) 98 (0, 0)) ∧ Mod (fun _ => False) w wr) (fun kv _ => (intOf kv + 1).toNat)
  case atStart => exact ⟨l.length, _, _, by omega, rfl, NInv.start l, HH.out.1, HH.out.2.1, HH.out.2.2⟩
  case round =>
    clear HH
    obtain ⟨k, nd, M, hk, rfl, hN, hown, hM, hm⟩ := hrel
    cases k with
    | zero =>
      clear hM hN
      rw [toldTo_zero] at hown
      go_wp2_with fail
      go_ret
      exact ⟨hm, _, rfl, hown⟩
    | succ k =>
      have hkl : k < l.length := by omega
      have e1 : ((k + 1 : Nat) : Int) - 1 = (k : Int) := by omega
      rw [e1]
      clear e1
      have hLr := hL.mod hm
      obtain ⟨gb, rfl, c0, c1, c2, c3⟩ := hLr.cell hkl
      have hs := HSM.out _ (List.getElem_mem hkl)
      obtain ⟨gd, hgd, cd⟩ := tvs_cell hown (by rw [toldTo_len l _ (by omega)]) (k := k) (by rw [toldTo_len l _ (by omega)]; exact hkl)
      injection hgd with hgd
      injection hgd with hgd
      subst hgd
      have fd := hown.frozenAt k
      have hst : ∀ b, (neededL l)[k]? = some b → (wr.setCell ⟨w.heap.size, k, none⟩ (.bool b)).ownsRow w.heap.size 4 1 (.slice (some ⟨w.heap.size, 0, none⟩) l.length l.length) l.length (tvs (toldTo l k)) := fun b hb => by
        rw [← toldTo_step hkl hb, ← tvs_set]; exact (hown.stored k (.bool b)).1
      have HVAL : Hid ((neededL l)[k]? = some (pN l[k] M)) := hN.val hkl
      have HYES : Hid (pN l[k] M = true → NInv l k (needStep l k nd) (wAhead l[k] M)) := fun h => hN.yes hkl h
      have HNO : Hid (pN l[k] M = false → NInv l k (needStep l k nd) M) := fun h => hN.no hkl h
      generalize l[k] = t at *
      have hah := fun w => ahead_any t M w hs
      have hsx := fun w => setsx_any t.op w hs.1
      have mx : wr.cell? ⟨W.heap.size, t.x, none⟩ = some (.bool (M t.x)) := by
        have := mcells_at M hs.2.1
        simp only [World.cell?, hM]; simpa using this
      have hWl := lt_of_block hM
      have ix : (t.x : Int) < 256 := by have := hs.2.1; omega
      have HPN : Hid (pN t M = (!decide (t.op ≤ 5) || M t.x)) := rfl
      have hne : ¬ w.heap.size = W.heap.size := by omega
      generalize decide (t.op ≤ 5) = b5 at *
      generalize hmx : M t.x = bx at *
      clear hmx hLr
      cases b5 with
      | false =>
        have hp : pN t M = true := by rw [HPN.out]; rfl
        have HV : Hid _ := hst true (by rw [HVAL.out, hp])
        have hN2 := HYES.out hp
        have hms : Mod (fun q => q = w.heap.size) wr (wr.setCell ⟨w.heap.size, k, none⟩ (.bool true)) := (Mod.refl _ wr).setCell ⟨w.heap.size, k, none⟩ (.bool true) (fun _ => rfl)
        have hmw2 : Mod (fun _ => False) w ((wr.setCell ⟨w.heap.size, k, none⟩ (.bool true)).alloc (.cells #[.int .u8 t.op, .int .u8 t.x, .int .u8 t.y, .int .u8 t.z] 94)) := (hm.setCell ⟨w.heap.size, k, none⟩ (.bool true) (fun h => absurd h (Nat.lt_irrefl _))).alloc _
        have HMA : Hid (((wr.setCell ⟨w.heap.size, k, none⟩ (.bool true)).alloc (.cells #[.int .u8 t.op, .int .u8 t.x, .int .u8 t.y, .int .u8 t.z] 94)).heap[W.heap.size]? = some (.cells (mcells M) 98 (0, 0))) := (hms.alloc _).keep hM (by omega)
        have hwr : w.heap.size < wr.heap.size := by omega
        clear hms hst hN hp hown hm HYES HNO hM
        go_wp2_with (first
          | (go_at_call 55; refine (hsx _).mono ?_; rintro e w3 ⟨rfl, rfl⟩)
          | (refine wpList_load_row rfl 98 _ rfl _ rfl (mcells M) 98 (0, 0) ?hb0 _ Tryz.underlying98 rfl (marks_size (mcells_size _)) ?_; case hb0 => exact HMA.out))
        refine (hah _).mono ?_
        rintro e w3 ⟨rfl, hm3⟩
        have HM3 : Hid _ := hm3.keep HMA.out (fun f => f)
        have hmw3 := hmw2.trans hm3
        have hown3 : (w3.setRow W.heap.size (mcells (wAhead t M))).ownsRow w.heap.size 4 1 (.slice (some ⟨w.heap.size, 0, none⟩) l.length l.length) l.length (tvs (toldTo l k)) :=
          owns_mod' (owns_mod (owns_mod HV.out ((Mod.refl (fun _ => False) _).alloc _) (fun _ _ f => f)) hm3 (fun _ _ f => f)) (setRow_mod w3 W.heap.size (mcells (wAhead t M))) (fun g h1 h2 => by injection h1 with h1; subst h1; exact absurd h2 (by show ¬ w.heap.size = W.heap.size; omega))
        have HM4 : Hid _ := setRow_at (C' := mcells (wAhead t M)) HM3.out
        have hmw4 := setRow_new (C := mcells (wAhead t M)) hmw3 (b := W.heap.size) (by omega)
        clear HV HMA hm3 hmw3 hmw2
        go_wp2_with (refine wpList_store_row rfl 98 _ _ rfl _ (mcells M) (mcells (wAhead t M)) 98 rfl rfl ?hb1 (marks_size (mcells_size _)) (by rw [mcells_size, mcells_size]) (mcells_one _) ?_; case hb1 => exact HM3.out)
        go_roundw
        case rel => exact ⟨k, _, _, by omega, by go_num, hN2, hown3, HM4.out, hmw4⟩
        case measure => simp [intOf]
      | true =>
        cases bx with
        | true =>
          have hp : pN t M = true := by rw [HPN.out]; rfl
          have HV : Hid _ := hst true (by rw [HVAL.out, hp])
          have hN2 := HYES.out hp
          have hms : Mod (fun q => q = w.heap.size) wr (wr.setCell ⟨w.heap.size, k, none⟩ (.bool true)) := (Mod.refl _ wr).setCell ⟨w.heap.size, k, none⟩ (.bool true) (fun _ => rfl)
          have hmw2 : Mod (fun _ => False) w ((wr.setCell ⟨w.heap.size, k, none⟩ (.bool true)).alloc (.cells #[.int .u8 t.op, .int .u8 t.x, .int .u8 t.y, .int .u8 t.z] 94)) := (hm.setCell ⟨w.heap.size, k, none⟩ (.bool true) (fun h => absurd h (Nat.lt_irrefl _))).alloc _
          have HMA : Hid (((wr.setCell ⟨w.heap.size, k, none⟩ (.bool true)).alloc (.cells #[.int .u8 t.op, .int .u8 t.x, .int .u8 t.y, .int .u8 t.z] 94)).heap[W.heap.size]? = some (.cells (mcells M) 98 (0, 0))) := (hms.alloc _).keep hM (by omega)
          have hwr : w.heap.size < wr.heap.size := by omega
          clear hms hst hN hp hown hm HYES HNO hM
          go_wp2_with (first
            | (go_at_call 55; refine (hsx _).mono ?_; rintro e w3 ⟨rfl, rfl⟩)
            | (refine wpList_load_row rfl 98 _ rfl _ rfl (mcells M) 98 (0, 0) ?hb0 _ Tryz.underlying98 rfl (marks_size (mcells_size _)) ?_; case hb0 => exact HMA.out))
          refine (hah _).mono ?_
          rintro e w3 ⟨rfl, hm3⟩
          have HM3 : Hid _ := hm3.keep HMA.out (fun f => f)
          have hmw3 := hmw2.trans hm3
          have hown3 : (w3.setRow W.heap.size (mcells (wAhead t M))).ownsRow w.heap.size 4 1 (.slice (some ⟨w.heap.size, 0, none⟩) l.length l.length) l.length (tvs (toldTo l k)) :=
            owns_mod' (owns_mod (owns_mod HV.out ((Mod.refl (fun _ => False) _).alloc _) (fun _ _ f => f)) hm3 (fun _ _ f => f)) (setRow_mod w3 W.heap.size (mcells (wAhead t M))) (fun g h1 h2 => by injection h1 with h1; subst h1; exact absurd h2 (by show ¬ w.heap.size = W.heap.size; omega))
          have HM4 : Hid _ := setRow_at (C' := mcells (wAhead t M)) HM3.out
          have hmw4 := setRow_new (C := mcells (wAhead t M)) hmw3 (b := W.heap.size) (by omega)
          clear HV HMA hm3 hmw3 hmw2
          go_wp2_with (refine wpList_store_row rfl 98 _ _ rfl _ (mcells M) (mcells (wAhead t M)) 98 rfl rfl ?hb1 (marks_size (mcells_size _)) (by rw [mcells_size, mcells_size]) (mcells_one _) ?_; case hb1 => exact HM3.out)
          go_roundw
          case rel => exact ⟨k, _, _, by omega, by go_num, hN2, hown3, HM4.out, hmw4⟩
          case measure => simp [intOf]
        | false =>
          have hp : pN t M = false := by rw [HPN.out]; rfl
          have hV := hst false (by rw [HVAL.out, hp])
          have hN2 := HNO.out hp
          have hms : Mod (fun q => q = w.heap.size) wr (wr.setCell ⟨w.heap.size, k, none⟩ (.bool false)) := (Mod.refl _ wr).setCell ⟨w.heap.size, k, none⟩ (.bool false) (fun _ => rfl)
          have hmw2 : Mod (fun _ => False) w ((wr.setCell ⟨w.heap.size, k, none⟩ (.bool false)).alloc (.cells #[.int .u8 t.op, .int .u8 t.x, .int .u8 t.y, .int .u8 t.z] 94)) := (hm.setCell ⟨w.heap.size, k, none⟩ (.bool false) (fun h => absurd h (Nat.lt_irrefl _))).alloc _
          have HMA : Hid (((wr.setCell ⟨w.heap.size, k, none⟩ (.bool false)).alloc (.cells #[.int .u8 t.op, .int .u8 t.x, .int .u8 t.y, .int .u8 t.z] 94)).heap[W.heap.size]? = some (.cells (mcells M) 98 (0, 0))) := (hms.alloc _).keep hM (by omega)
          have hV2 := owns_mod hV ((Mod.refl (fun _ => False) _).alloc (.cells #[.int .u8 t.op, .int .u8 t.x, .int .u8 t.y, .int .u8 t.z] 94)) (fun _ _ f => f)
          have hwr : w.heap.size < wr.heap.size := by omega
          clear hms hst hN hp hown hm HYES HNO hM hV
          go_wp2_with (go_at_call 55; refine (hsx _).mono ?_; rintro e w3 ⟨rfl, rfl⟩)
          go_roundw
          case rel => exact ⟨k, _, _, by omega, by go_num, hN2, hV2, HMA.out, hmw2⟩
          case measure => simp [intOf]
end Go.Proofs.YtmnfndpbblpjiabGreatDoor

/- The program's keepNeeded. -/
namespace Go.Proofs.YtmnfndpbblpjiabGreatDoor
open Go.RowKit Pu

set_option maxHeartbeats 1600000 in
set_option maxRecDepth 4000 in
theorem kept_any (v : Value) (l : List Stp) (base : Nat) (w : World) (hl : l.length ≤ 3000) (hL : PLst w base v l) (hsm : ∀ t ∈ l, Small t) :
    Calls Tryz.prog 67 #[v] w fun e w' => Mod (fun _ => False) w w' ∧ ∃ u, e = .returned u ∧ PLst w' w.heap.size u (keepTo l (neededL l) l.length) := by
  obtain ⟨i0, hi, hz0, hz1, hz2⟩ := info_parts Tryz.infoSt
  obtain ⟨ao, cap, rfl, -⟩ := owns_form hL
  have HN := need_any _ l base w hl hL hsm
  go_enter Tryz.func67, Tryz.ntmps67
  go_wp2_with fail
  refine HN.mono ?_
  rintro e w1 ⟨hm1, u, rfl, hown⟩
  have HNL : Hid ((neededL l).length = l.length) := neededL_len l
  generalize hnd : neededL l = nd at *
  have HND : Hid (neededL l = nd) := hnd
  clear hnd
  obtain ⟨uo, ucap, rfl, -⟩ := owns_form hown
  have hL1 := hL.mod hm1
  have hs1 := hm1.size
  clear HN hsm hL
  go_wp2_with fail
  go_loopw [4, 11] (fun v kv wr => ∃ k : Nat, k ≤ l.length ∧ kv = .int .i64 k ∧ PLst wr w1.heap.size v (keepTo l nd k) ∧ Mod (fun q => w1.heap.size ≤ q) w1 wr ∧ (keepTo l nd k).length ≤ k) (fun _ kv _ => l.length - (intOf kv).toNat)
  case atStart => exact ⟨0, by omega, rfl, World.ownsRow_nil _ _ _ _, Mod.refl _ _, Nat.le_refl _⟩
  case round =>
    obtain ⟨k, hk, rfl, hP, hm, hq⟩ := hrel
    unfold PLst at hP
    obtain ⟨po, pcap, rfl, -⟩ := owns_form hP
    have hmF : Mod (fun _ => False) w1 wr := hm.mono (fun q hq h => by omega)
    by_cases hlt : k < l.length
    · have hkn : k < nd.length := by rw [HNL.out]; exact hlt
      have hLr := hL1.mod hmF
      obtain ⟨gb, rfl, c0, c1, c2, c3⟩ := hLr.cell hlt
      have hownr := owns_mod hown hmF (fun _ _ f => f)
      obtain ⟨ub, rfl, ck⟩ := tvs_cell hownr HNL.out.symm hkn
      have hul := (hownr.lt ub rfl).2
      have hma := hm.alloc (.cells #[.int .u8 l[k].op, .int .u8 l[k].x, .int .u8 l[k].y, .int .u8 l[k].z] 94)
      have hPa := owns_mod hP ((Mod.refl (fun _ => False) wr).alloc (.cells #[.int .u8 l[k].op, .int .u8 l[k].x, .int .u8 l[k].y, .int .u8 l[k].z] 94)) (fun _ _ f => f)
      have hsr := hm.size
      clear hLr hownr hmF
      cases hdk : nd[k] with
      | false =>
        rw [hdk] at ck
        have HK : Hid (keepTo l nd (k + 1) = keepTo l nd k) := keepTo_no hkn hdk
        have HKN : Hid (PLst (wr.alloc (.cells #[.int .u8 l[k].op, .int .u8 l[k].x, .int .u8 l[k].y, .int .u8 l[k].z] 94)) w1.heap.size (.slice po (keepTo l nd k).length pcap) (keepTo l nd (k + 1))) := show PLst _ _ _ _ by
          rw [HK.out]; exact hPa
        generalize hkl : (keepTo l nd k).length = kl at *
        have HKL : Hid ((keepTo l nd (k + 1)).length ≤ k + 1) := show _ ≤ _ by rw [HK.out, hkl]; omega
        clear hkl hdk
        go_wp2_with fail
        go_roundw
        case rel => exact ⟨k + 1, by omega, by go_num, HKN.out, hma, HKL.out⟩
        case measure => simp [intOf]; omega
      | true =>
        rw [hdk] at ck
        have HK : Hid (keepTo l nd (k + 1) = keepTo l nd k ++ [l[k]]) := keepTo_yes hkn hlt hdk
        generalize hkt : keepTo l nd k = kt at *
        generalize l[k] = t at *
        clear hkt hdk
        go_wp2_with (at_builtin; refine wpList_append_own _ rfl _ _ 61 rfl w1.heap.size 94 i0 _ 4 4 Tryz.underlying61 hi hz0 hz1 hz2 rfl (by decide) _ _ _ rfl (hPa.alloc _) ⟨wr.heap.size + 1, 0, none⟩ 1 1 (pcells t) rfl rfl ?c1 ?c2 ?c3 ?c4 ?c5 ?_)
        case c1 => exact World.news_of_block (cs := #[.int .u8 t.op, .int .u8 t.x, .int .u8 t.y, .int .u8 t.z]) (t := 94) (fr := (0, 0)) (alloc2_at wr _ _).2
        case c2 => simp [pcells, Value.oneCell']
        case c3 => unfold maxLen; omega
        case c4 => omega
        case c5 => simp; omega
        intro v' w4 hown4 hgrow _
        have hgm : Mod (fun i => w1.heap.size ≤ i) wr w4 := (((Mod.refl _ wr).alloc _).alloc _).grown hgrow (fun i hi _ => (hP.lt i hi).1)
        have hm4 := hm.trans hgm
        have HP4 : Hid (PLst w4 w1.heap.size v' (keepTo l nd (k + 1))) := show PLst _ _ _ _ by
          rw [HK.out]; unfold PLst; rw [← pcellsOf_snoc]; simpa using hown4
        have HKL : Hid ((keepTo l nd (k + 1)).length ≤ k + 1) := show _ ≤ _ by rw [HK.out]; simp; omega
        clear hown4 hgrow hgm hP hPa hm hma
        go_wp2_with fail
        go_roundw
        case rel => exact ⟨k + 1, by omega, by go_num, HP4.out, hm4, HKL.out⟩
        case measure => simp [intOf]; omega
    · have hks : k = l.length := by omega
      subst hks
      have hE : PLst wr w.heap.size (.slice po (keepTo l nd l.length).length pcap) (keepTo l nd l.length) := owns_base hP (by omega)
      have hmE := hm1.trans hmF
      go_wp2_with fail
      go_ret
      exact ⟨hmE, _, rfl, by rw [HND.out]; exact hE⟩
end Go.Proofs.YtmnfndpbblpjiabGreatDoor

/- The program's joinCode. -/
namespace Go.Proofs.YtmnfndpbblpjiabGreatDoor
open Go.RowKit Pu

theorem ofNat_u8 {n : Nat} (h : n < 256) : ((UInt8.ofNat n).toNat : Int) = (n : Int) := by
  rw [UInt8.toNat_ofNat_of_lt' (by simpa using h)]
theorem bvs_st {t : Stp} (h : Small t) : bvs (stB t) = pcells t := by
  obtain ⟨h1, h2, h3, h4⟩ := h
  simp [bvs, stB, pcells]
  omega

theorem owns_built {w : World} {b e : Nat} {c : Array Value} (h : w.heap[b]? = some (.cells c e (0, 0))) (hc : c.size ≤ 1000) : w.ownsRow b e 1 (.slice (some ⟨b, 0, none⟩) c.size c.size) c.size c.toList :=
  ⟨by simp, .inr ⟨b, c.size, c, rfl, Nat.le_refl _, h, Nat.le_refl _, by unfold maxLen; omega, by simp, by simpa using List.take_of_length_le (by simp)⟩⟩
theorem joined_head {r i n : Nat} (hr : r < 256) (hi : i < 256) (hn : n ≤ 3000) : bvs [82, 85, UInt8.ofNat r, UInt8.ofNat i, UInt8.ofNat (n % 256), UInt8.ofNat (n / 256)] = [.int .u8 82, .int .u8 85, .int .u8 r, .int .u8 i, .int .u8 ((n : Int) % 256), .int .u8 ((n : Int) / 256)] := by
  simp [bvs]
  omega

set_option maxHeartbeats 1600000 in
set_option maxRecDepth 4000 in
theorem join_any (v : Value) (l : List Stp) (r i base : Nat) (w : World) (hl : l.length ≤ 3000) (hL : PLst w base v l) (hsm : ∀ t ∈ l, Small t) (hr : r < 256) (hi : i < 256) :
    Calls Tryz.prog 33 #[.agg #[.int .u8 r, .int .u8 i, v]] w fun e w' => e = .returned (S (joined r i l)) ∧ Mod (fun _ => False) w w' := by
  obtain ⟨i0, hii, hz0, hz1, hz2⟩ := info_parts Tryz.info5
  obtain ⟨ao, cap, rfl, -⟩ := owns_form hL
  have HSM : Hid (∀ t ∈ l, Small t) := hsm
  clear hsm
  go_enter Tryz.func33, Tryz.ntmps33
  go_wp2_with fail
  obtain ⟨a1, a2⟩ := alloc2_at w (.cells #[.int .u8 r, .int .u8 i, .slice ao l.length cap] 63) (.cells #[.int .u8 82, .int .u8 85, .int .u8 r, .int .u8 i, .int .u8 ((l.length : Int) % 256), .int .u8 ((l.length : Int) / 256)] 5)
  have hm0 : Mod (fun _ => False) w ((w.alloc (.cells #[.int .u8 r, .int .u8 i, .slice ao l.length cap] 63)).alloc (.cells #[.int .u8 82, .int .u8 85, .int .u8 r, .int .u8 i, .int .u8 ((l.length : Int) % 256), .int .u8 ((l.length : Int) / 256)] 5)) := ((Mod.refl _ w).alloc _).alloc _
  have hO0 := owns_built a2 (by simp)
  have hO1 : ((w.alloc (.cells #[.int .u8 r, .int .u8 i, .slice ao l.length cap] 63)).alloc (.cells #[.int .u8 82, .int .u8 85, .int .u8 r, .int .u8 i, .int .u8 ((l.length : Int) % 256), .int .u8 ((l.length : Int) / 256)] 5)).ownsRow (w.heap.size + 1) 5 1 (.slice (some ⟨w.heap.size + 1, 0, none⟩) 6 6) ([82, 85, UInt8.ofNat r, UInt8.ofNat i, UInt8.ofNat (l.length % 256), UInt8.ofNat (l.length / 256)] ++ (l.take 0).flatMap stB).length (bvs ([82, 85, UInt8.ofNat r, UInt8.ofNat i, UInt8.ofNat (l.length % 256), UInt8.ofNat (l.length / 256)] ++ (l.take 0).flatMap stB)) := by
    simp only [List.take_zero, List.flatMap_nil, List.append_nil]
    rw [joined_head hr hi hl]
    exact hO0
  have hmw : w.heap.size < ((w.alloc (.cells #[.int .u8 r, .int .u8 i, .slice ao l.length cap] 63)).alloc (.cells #[.int .u8 82, .int .u8 85, .int .u8 r, .int .u8 i, .int .u8 ((l.length : Int) % 256), .int .u8 ((l.length : Int) / 256)] 5)).heap.size := by simp; omega
  clear hO0 a1 a2
  generalize ((w.alloc (.cells #[.int .u8 r, .int .u8 i, .slice ao l.length cap] 63)).alloc (.cells #[.int .u8 82, .int .u8 85, .int .u8 r, .int .u8 i, .int .u8 ((l.length : Int) % 256), .int .u8 ((l.length : Int) / 256)] 5)) = w1 at *
  go_loopw [4, 24] (fun v kv wr => ∃ k : Nat, k ≤ l.length ∧ kv = .int .i64 k ∧ wr.ownsRow (w.heap.size + 1) 5 1 v ([82, 85, UInt8.ofNat r, UInt8.ofNat i, UInt8.ofNat (l.length % 256), UInt8.ofNat (l.length / 256)] ++ (l.take k).flatMap stB).length (bvs ([82, 85, UInt8.ofNat r, UInt8.ofNat i, UInt8.ofNat (l.length % 256), UInt8.ofNat (l.length / 256)] ++ (l.take k).flatMap stB)) ∧ Mod (fun _ => False) w wr ∧ w.heap.size < wr.heap.size) (fun _ kv _ => l.length - (intOf kv).toNat)
  case atStart => exact ⟨0, by omega, rfl, hO1, hm0, by omega⟩
  case round =>
    clear hO1 hm0 hmw
    obtain ⟨k, hk, rfl, hown, hm, hwl⟩ := hrel
    have HJ : Hid (∀ h : k < l.length, [82, 85, UInt8.ofNat r, UInt8.ofNat i, UInt8.ofNat (l.length % 256), UInt8.ofNat (l.length / 256)] ++ (l.take (k + 1)).flatMap stB = ([82, 85, UInt8.ofNat r, UInt8.ofNat i, UInt8.ofNat (l.length % 256), UInt8.ofNat (l.length / 256)] ++ (l.take k).flatMap stB) ++ stB l[k]) := fun h => by
      rw [List.take_succ_eq_append_getElem h, List.flatMap_append, ← List.append_assoc, List.flatMap_cons, List.flatMap_nil, List.append_nil]
    have HJE : Hid (k = l.length → [82, 85, UInt8.ofNat r, UInt8.ofNat i, UInt8.ofNat (l.length % 256), UInt8.ofNat (l.length / 256)] ++ (l.take k).flatMap stB = joined r i l) := fun h => by
      subst h; rw [List.take_length]; rfl
    have hjl : ([82, 85, UInt8.ofNat r, UInt8.ofNat i, UInt8.ofNat (l.length % 256), UInt8.ofNat (l.length / 256)] ++ (l.take k).flatMap stB).length ≤ 20000 := by
      have : ∀ q : List Stp, (q.flatMap stB).length = 4 * q.length := fun q => by
        induction q with
        | nil => rfl
        | cons t q ih => simp [ih, stB]; omega
      simp [this]; omega
    generalize hjs : [82, 85, UInt8.ofNat r, UInt8.ofNat i, UInt8.ofNat (l.length % 256), UInt8.ofNat (l.length / 256)] ++ (l.take k).flatMap stB = js at *
    clear hjs
    obtain ⟨jo, jcap, rfl, -⟩ := owns_form hown
    by_cases hlt : k < l.length
    · have hLr := hL.mod hm
      obtain ⟨gb, rfl, c0, c1, c2, c3⟩ := hLr.cell hlt
      have HB4 : Hid (bvs (stB l[k]) = pcells l[k]) := bvs_st (HSM.out _ (List.getElem_mem hlt))
      have HJ1 : Hid _ := HJ.out hlt
      generalize l[k] = t at *
      clear hLr HJ HJE
      have hOa := owns_mod hown ((Mod.refl (fun _ => False) wr).alloc (.cells #[.int .u8 t.op, .int .u8 t.x, .int .u8 t.y, .int .u8 t.z] 94)) (fun _ _ f => f)
      go_wp2_with (at_builtin; refine wpList_append_own _ rfl _ _ 70 rfl (w.heap.size + 1) 5 i0 _ 1 1 Tryz.underlying70 hii hz0 hz1 hz2 rfl (by decide) _ _ _ rfl (hOa.alloc _) ⟨wr.heap.size + 1, 0, none⟩ 4 4 (pcells t) rfl rfl ?c1 ?c2 ?c3 ?c4 ?c5 ?_)
      case c1 => exact World.news_of_block (cs := #[.int .u8 t.op, .int .u8 t.x, .int .u8 t.y, .int .u8 t.z]) (t := 5) (fr := (0, 0)) (alloc2_at wr _ _).2
      case c2 => simp [pcells, Value.oneCell']
      case c3 => unfold maxLen; omega
      case c4 => omega
      case c5 => simp; omega
      intro v' w4 hown4 hgrow _
      have hgm : Mod (fun i => w.heap.size + 1 ≤ i) wr w4 := (((Mod.refl _ wr).alloc _).alloc _).grown hgrow (fun i hi _ => (hown.lt i hi).1)
      have hm4 : Mod (fun _ => False) w w4 := ⟨hgm.os.trans hm.os, hgm.tape.trans hm.tape, hgm.output.trans hm.output, Nat.le_trans hm.size hgm.size, fun i hi _ => (hgm.block i (by omega) (by omega)).trans (hm.block i hi (fun f => f))⟩
      have hwl4 : w.heap.size < w4.heap.size := by have := hgm.size; omega
      have HO4 : Hid (w4.ownsRow (w.heap.size + 1) 5 1 v' (js ++ stB t).length (bvs (js ++ stB t))) := show w4.ownsRow _ _ _ _ _ _ by
        have e : bvs (js ++ stB t) = bvs js ++ pcells t := by rw [← HB4.out]; simp [bvs]
        rw [e]
        simpa [stB] using hown4
      clear hown4 hgrow hgm hown hOa hm hwl
      go_wp2_with fail
      go_roundw
      case rel => exact ⟨k + 1, by omega, by go_num, by rw [HJ1.out]; exact HO4.out, hm4, hwl4⟩
      case measure => simp [intOf]; omega
    · have HE : Hid (js = joined r i l) := HJE.out (by omega)
      have hcv := convert_owned (P := Tryz.prog) hown rfl Tryz.underlying70 Tryz.underlying5 Tryz.underlying9
      go_wp2_with fail
      go_ret
      exact ⟨by rw [← HE.out]; rfl, hm⟩
end Go.Proofs.YtmnfndpbblpjiabGreatDoor

/- The program's reports: an answer's digit; the letter and the number of a stop. -/
namespace Go.Proofs.YtmnfndpbblpjiabGreatDoor
open Go.RowKit Pu

set_option maxHeartbeats 1600000 in
set_option maxRecDepth 4000 in
theorem small_any (n : Nat) (w : World) (hn : n < 16) : Calls Tryz.prog 143 #[.int .i64 (n : Int)] w fun e w' => e = .returned (.string (dec (n : Int))) ∧ w = w' := by
  have : n = 0 ∨ n = 1 ∨ n = 2 ∨ n = 3 ∨ n = 4 ∨ n = 5 ∨ n = 6 ∨ n = 7 ∨ n = 8 ∨ n = 9 ∨ n = 10 ∨ n = 11 ∨ n = 12 ∨ n = 13 ∨ n = 14 ∨ n = 15 := by omega
  rcases this with rfl | rfl | rfl | rfl | rfl | rfl | rfl | rfl | rfl | rfl | rfl | rfl | rfl | rfl | rfl | rfl
  all_goals
    go_enter Tryz.func143, Tryz.ntmps143
    go_wp2_with fail
    go_ret
    exact ⟨by rfl, rfl⟩

theorem itoa_any (n : Nat) (w : World) (hn : n < 16) : Calls Tryz.prog 36 #[.int .i64 (n : Int)] w fun e w' => e = .returned (.string (dec (n : Int))) ∧ w = w' := by
  have hs := fun w => small_any n w hn
  generalize dec (n : Int) = dn at *
  have h1 : Calls Tryz.prog 98 #[.int .i64 (n : Int), .int .i64 10] w fun e w' => e = .returned (.string dn) ∧ w = w' := by
    have q1 : (0 : Int) ≤ (n : Int) := by omega
    have q2 : (n : Int) < 100 := by omega
    go_enter Tryz.func98, Tryz.ntmps98
    go_wp2_with (go_at_call 143; refine (hs _).mono ?_; rintro e w1 ⟨rfl, rfl⟩)
    go_ret
    exact ⟨rfl, rfl⟩
  have h2 : Calls Tryz.prog 58 #[.int .i64 (n : Int)] w fun e w' => e = .returned (.string dn) ∧ w = w' := by
    go_enter Tryz.func58, Tryz.ntmps58
    go_wp2_with (go_at_call 98; refine h1.mono ?_; rintro e w1 ⟨rfl, rfl⟩)
    go_ret
    exact ⟨rfl, rfl⟩
  go_enter Tryz.func36, Tryz.ntmps36
  go_wp2_with (go_at_call 58; refine h2.mono ?_; rintro e w1 ⟨rfl, rfl⟩)
  go_ret
  exact ⟨rfl, rfl⟩

/-- The bytes of a report, in memory; what a call has made of them. -/
def RepEnd (w : World) (base : Nat) (rv : Value) (bs : List UInt8) (e : Ending) (w' : World) : Prop :=
  Mod (fun q => rv.ownBlock = some q) w w' ∧ ∃ v', e = .returned v' ∧ w'.ownsRow base 5 1 v' bs.length (bvs bs)

set_option maxHeartbeats 800000 in
set_option maxRecDepth 4000 in
theorem answer_any (rv : Value) (bs : List UInt8) (so : Bool) (base : Nat) (w : World) (hO : w.ownsRow base 5 1 rv bs.length (bvs bs)) (hl : bs.length ≤ 10000) (hb : base ≤ w.heap.size) :
    Calls Tryz.prog 140 #[rv, .bool so] w (RepEnd w base rv (bs ++ [if so then 49 else 48])) := by
  obtain ⟨i0, hii, hz0, hz1, hz2⟩ := info_parts Tryz.info5
  obtain ⟨ro, rcap, rfl, -⟩ := owns_form hO
  cases so
  · go_enter Tryz.func140, Tryz.ntmps140
    go_wp2_with (at_builtin; refine wpList_append_own _ rfl _ _ 70 rfl base 5 i0 _ 1 1 Tryz.underlying70 hii hz0 hz1 hz2 rfl (by decide) _ _ _ rfl (hO.alloc _) ⟨w.heap.size, 0, none⟩ 1 1 [.int .u8 48] rfl rfl ?c1 ?c2 ?c3 ?c4 ?c5 ?_)
    case c1 => exact World.news_of_block (cs := #[.int .u8 48]) (t := 5) (fr := (0, 0)) (heap_alloc_new w _)
    case c2 => simp [Value.oneCell']
    case c3 => unfold maxLen; omega
    case c4 => omega
    case c5 => simp; omega
    intro v' w4 hown4 hgrow _
    have hgm : Mod (fun q => (Value.slice ro bs.length rcap).ownBlock = some q) w w4 := ((Mod.refl _ w).alloc _).grown hgrow (fun i hi _ => hi)
    have HO4 : Hid (w4.ownsRow base 5 1 v' (bs ++ [48]).length (bvs (bs ++ [48]))) := show w4.ownsRow _ _ _ _ _ _ by
      rw [← bvs_snoc]; simpa using hown4
    clear hown4 hgrow hO
    go_wp2_with fail
    go_ret
    exact ⟨hgm, _, rfl, HO4.out⟩
  · go_enter Tryz.func140, Tryz.ntmps140
    go_wp2_with (at_builtin; refine wpList_append_own _ rfl _ _ 70 rfl base 5 i0 _ 1 1 Tryz.underlying70 hii hz0 hz1 hz2 rfl (by decide) _ _ _ rfl (hO.alloc _) ⟨w.heap.size, 0, none⟩ 1 1 [.int .u8 49] rfl rfl ?c1 ?c2 ?c3 ?c4 ?c5 ?_)
    case c1 => exact World.news_of_block (cs := #[.int .u8 49]) (t := 5) (fr := (0, 0)) (heap_alloc_new w _)
    case c2 => simp [Value.oneCell']
    case c3 => unfold maxLen; omega
    case c4 => omega
    case c5 => simp; omega
    intro v' w4 hown4 hgrow _
    have hgm : Mod (fun q => (Value.slice ro bs.length rcap).ownBlock = some q) w w4 := ((Mod.refl _ w).alloc _).grown hgrow (fun i hi _ => hi)
    have HO4 : Hid (w4.ownsRow base 5 1 v' (bs ++ [49]).length (bvs (bs ++ [49]))) := show w4.ownsRow _ _ _ _ _ _ by
      rw [← bvs_snoc]; simpa using hown4
    clear hown4 hgrow hO
    go_wp2_with fail
    go_ret
    exact ⟨hgm, _, rfl, HO4.out⟩
end Go.Proofs.YtmnfndpbblpjiabGreatDoor

/- The program's addStop. -/
namespace Go.Proofs.YtmnfndpbblpjiabGreatDoor
open Go.RowKit Pu

set_option maxHeartbeats 800000 in
set_option maxRecDepth 4000 in
theorem addstop_any (rv : Value) (bs : List UInt8) (c : UInt8) (n : Nat) (base : Nat) (w : World) (hO : w.ownsRow base 5 1 rv bs.length (bvs bs)) (hl : bs.length ≤ 10000) (hb : base ≤ w.heap.size) (hn : n < 16) :
    Calls Tryz.prog 176 #[rv, .int .u8 (c.toNat : Int), .int .i64 (n : Int)] w fun e w' => Mod (fun q => base ≤ q) w w' ∧ ∃ v', e = .returned v' ∧ w'.ownsRow base 5 1 v' (bs ++ [c] ++ (dec (n : Int)).data.toList).length (bvs (bs ++ [c] ++ (dec (n : Int)).data.toList)) := by
  obtain ⟨i0, hii, hz0, hz1, hz2⟩ := info_parts Tryz.info5
  obtain ⟨ro, rcap, rfl, -⟩ := owns_form hO
  have hit := fun w => itoa_any n w hn
  have hds := dec_size (n : Int)
  generalize dec (n : Int) = dn at *
  have hc8 := c.toNat_lt
  go_enter Tryz.func176, Tryz.ntmps176
  go_wp2_with (at_builtin; refine wpList_append_own _ rfl _ _ 70 rfl base 5 i0 _ 1 1 Tryz.underlying70 hii hz0 hz1 hz2 rfl (by decide) _ _ _ rfl (hO.alloc _) ⟨w.heap.size, 0, none⟩ 1 1 [.int .u8 (c.toNat : Int)] rfl rfl ?c1 ?c2 ?c3 ?c4 ?c5 ?_)
  case c1 => exact World.news_of_block (cs := #[.int .u8 (c.toNat : Int)]) (t := 5) (fr := (0, 0)) (heap_alloc_new w _)
  case c2 => simp [Value.oneCell']
  case c3 => unfold maxLen; omega
  case c4 => omega
  case c5 => simp; omega
  intro v1 w1 hown1 hgrow1 _
  have hg1 : Mod (fun q => (Value.slice ro bs.length rcap).ownBlock = some q) w w1 := ((Mod.refl _ w).alloc _).grown hgrow1 (fun i hi _ => hi)
  have hO1 : w1.ownsRow base 5 1 v1 (bs.length + 1) (bvs (bs ++ [c])) := by rw [← bvs_snoc]; simpa using hown1
  obtain ⟨vo1, vcap1, rfl, -⟩ := owns_form hO1
  have hs1 := hg1.size
  clear hown1 hgrow1
  go_wp2_with (first
    | (go_at_call 36; refine (hit _).mono ?_; rintro e w2 ⟨rfl, rfl⟩)
    | (at_builtin; refine Go.Lib.wpList_append_own_string _ rfl _ _ 70 9 rfl base 5 i0 Tryz.underlying70 Tryz.underlying9 hii hz0 hz1 hz2 _ _ _ rfl hO1 dn rfl ?d1 ?d2 ?d3 ?_))
  case d1 => unfold maxLen; omega
  case d2 => omega
  case d3 => omega
  intro v2 w2 hown2 hgrow2 _
  have hg2 : Mod (fun q => (Value.slice vo1 (bs.length + 1) vcap1).ownBlock = some q) w1 w2 := (Mod.refl _ w1).grown hgrow2 (fun i hi _ => hi)
  have HO2 : Hid (w2.ownsRow base 5 1 v2 (bs ++ [c] ++ dn.data.toList).length (bvs (bs ++ [c] ++ dn.data.toList))) := show w2.ownsRow _ _ _ _ _ _ by
    have e1 : (bs ++ [c] ++ dn.data.toList).length = bs.length + 1 + dn.size := by
      have : dn.data.toList.length = dn.size := by rw [Array.length_toList]; rfl
      rw [List.length_append, this]; simp
    have e2 : bvs (bs ++ [c] ++ dn.data.toList) = bvs (bs ++ [c]) ++ Go.Lib.strCells dn := by simp [bvs, Go.Lib.strCells]
    rw [e1, e2]; exact hown2
  have hmm : Mod (fun q => base ≤ q) w w2 := (hg1.mono (fun q _ h => (hO.lt q h).1)).trans (hg2.mono (fun q _ h => (hO1.lt q h).1))
  clear hown2 hgrow2 hO hO1
  go_wp2_with fail
  go_ret
  exact ⟨hmm, _, rfl, HO2.out⟩
end Go.Proofs.YtmnfndpbblpjiabGreatDoor

/- The program's machine in memory; the number of an input. -/
namespace Go.Proofs.YtmnfndpbblpjiabGreatDoor
open Go.RowKit Pu

/-- A machine: its inputs, its registers, its report, whether it has ended. -/
def Mc (w : World) (mb : Nat) (iv : Value) (R : List Int) (bs : List UInt8) (ended : Bool) : Prop :=
  ∃ C : Array Value, w.heap[mb]? = some (.cells C 144 (0, 0)) ∧ C.size = 515 ∧ C[0]? = some iv ∧ C[514]? = some (.bool ended) ∧
    (∃ rv, C[513]? = some rv ∧ w.ownsRow (mb + 1) 5 1 rv bs.length (bvs bs)) ∧
    ∀ r, r < 256 → ∃ nx u a, C[1 + r * 2]? = some (.bool nx) ∧ C[1 + r * 2 + 1]? = some u ∧ N9 w nx u a ∧ num9 nx a = reg R r ∧ a.length ≤ 889
theorem Mc.cell {w : World} {mb : Nat} {C : Array Value} {t : TypeId} (h : w.heap[mb]? = some (.cells C t (0, 0))) (i : Nat) : w.cell? ⟨mb, i, none⟩ = C[i]? := by simp only [World.cell?, h]; simp
theorem Mc.mod {w w' : World} {mb : Nat} {iv : Value} {R : List Int} {bs : List UInt8} {ended : Bool} (h : Mc w mb iv R bs ended) (hm : Mod (fun _ => False) w w') : Mc w' mb iv R bs ended := by
  obtain ⟨C, h1, h2, h3, h4, ⟨rv, h5, h6⟩, h7⟩ := h
  refine ⟨C, hm.keep h1 (fun f => f), h2, h3, h4, ⟨rv, h5, owns_mod h6 hm (fun _ _ f => f)⟩, fun r hr => ?_⟩
  obtain ⟨nx, u, a, c0, c1, hN, hx, hl⟩ := h7 r hr
  exact ⟨nx, u, a, c0, c1, hN.mod hm, hx, hl⟩
theorem Mc.lt {w : World} {mb : Nat} {iv : Value} {R : List Int} {bs : List UInt8} {ended : Bool} (h : Mc w mb iv R bs ended) : mb < w.heap.size := by
  obtain ⟨C, h1, -⟩ := h
  exact lt_of_block h1
theorem Mc.fz {w : World} {mb : Nat} {iv : Value} {R : List Int} {bs : List UInt8} {ended : Bool} (h : Mc w mb iv R bs ended) (i : Nat) : w.frozen? ⟨mb, i, none⟩ = false := by
  obtain ⟨C, h1, -⟩ := h
  exact fz3 h1 i
theorem Mc.iv {w : World} {mb : Nat} {iv : Value} {R : List Int} {bs : List UInt8} {ended : Bool} (h : Mc w mb iv R bs ended) : w.cell? ⟨mb, 0, none⟩ = some iv := by
  obtain ⟨C, h1, -, h3, -⟩ := h
  rw [Mc.cell h1]; exact h3
theorem Mc.regs {w : World} {mb : Nat} {iv : Value} {R : List Int} {bs : List UInt8} {ended : Bool} (h : Mc w mb iv R bs ended) {r : Nat} (hr : r < 256) :
    ∃ nx ao n cap a, w.cell? ⟨mb, 1 + r * 2, none⟩ = some (.bool nx) ∧ w.cell? ⟨mb, 1 + r * 2 + 1, none⟩ = some (.slice ao n cap) ∧ N9 w nx (.slice ao n cap) a ∧ num9 nx a = reg R r ∧ a.length ≤ 889 := by
  obtain ⟨C, h1, -, -, -, -, h7⟩ := h
  obtain ⟨nx, u, a, c0, c1, hN, hx, hl⟩ := h7 r hr
  obtain ⟨ao, cap, rfl, -⟩ := owns_form hN.2
  exact ⟨nx, ao, a.length, cap, a, by rw [Mc.cell h1]; exact c0, by rw [Mc.cell h1]; exact c1, hN, hx, hl⟩

set_option maxHeartbeats 800000 in
set_option maxRecDepth 4000 in
theorem minput_any (mb y gi n icap : Nat) (x : Int) (R : List Int) (bs : List UInt8) (ended : Bool) (w : World) (hM : Mc w mb (.slice (some ⟨gi, 0, none⟩) n icap) R bs ended) (hy : y < n) (hy2 : y < 256) (_hn : n ≤ 1000) (cx : w.cell? ⟨gi, y, none⟩ = some (.int .i64 x)) (h1 : -100 < x) (h2 : x < 100) :
    Calls Tryz.prog 191 #[.pointer (some ⟨mb, 0, none⟩), .int .u8 (y : Int)] w (N9E w x 3) := by
  have hR0 := heap_alloc_new w (.cells #[.bool false, .slice none 0 0] 141)
  have hm0 : Mod (fun _ => False) w (w.alloc (.cells #[.bool false, .slice none 0 0] 141)) := (Mod.refl _ w).alloc _
  have c0 := hM.iv
  have hlt := hM.lt
  have w1 : IntKind.i64.wrap (y : Int) = (y : Int) := by simp [IntKind.wrap, IntKind.signed, IntKind.bits]; omega
  have q1 : ¬ (n : Int) ≤ (y : Int) := by omega
  have q2 : (y : Int) < (n : Int) := by omega
  have hgl : gi < w.heap.size := World.block_lt_of_cell? w _ cx
  have HH : Hid _ := And.intro hR0 hm0
  clear hR0 hm0 hM
  go_enter Tryz.func191, Tryz.ntmps191
  go_wp2_with fail
  obtain ⟨hR0, hm0⟩ := HH.out
  generalize w.alloc (.cells #[.bool false, .slice none 0 0] 141) = W at *
  refine (fromint_any x W (by omega) (by omega)).mono ?_
  rintro e w3 ⟨hm3, nb3, v3, l3, rfl, hN3, hx3, hl3⟩
  have hR3 := hm3.keep hR0 (fun f => f)
  obtain ⟨r0, r1⟩ := c2_of hR3
  have f0 := fz3 hR3 0
  have f1 := fz3 hR3 1
  obtain ⟨vo3, vcap3, rfl, -⟩ := owns_form hN3.2
  have HE : Hid _ := n9_end (x := x) (n := 3) hR3 (Nat.le_refl _) (hm0.trans hm3) hN3.2 hN3.1 hx3 hl3
  clear hR3 hm3 hN3 hx3 hR0 hm0 HH
  go_wp2_with fail
  obtain ⟨k1, q0, q1⟩ := HE.out
  unfold set2at at q0 q1
  exact bodyPost_ret (by simp [results, Tryz.results191, go_sem, q0, q1]) rfl k1
end Go.Proofs.YtmnfndpbblpjiabGreatDoor
