/- The program's keepNeeded. -/
import Derived.Test.YtmnfndpbblpjiaaGreatDoorSh2
import Derived.Test.YtmnfndpbblpjiaaGreatDoorPz2
namespace Go.Proofs.YtmnfndpbblpjiaaGreatDoor
open Go.RowKit Pu

set_option maxHeartbeats 1600000 in
set_option maxRecDepth 4000 in
theorem kept_any (v : Value) (l : List Stp) (base : Nat) (w : World) (hl : l.length ≤ 3000) (hL : PLst w base v l) (hsm : ∀ t ∈ l, Small t) :
    Calls Tryz.prog 48 #[v] w fun e w' => Mod (fun _ => False) w w' ∧ ∃ u, e = .returned u ∧ PLst w' w.heap.size u (keepTo l (neededL l) l.length) := by
  obtain ⟨i0, hi, hz0, hz1, hz2⟩ := info_parts Tryz.infoSt
  obtain ⟨ao, cap, rfl, -⟩ := owns_form hL
  have HN := need_any _ l base w hl hL hsm
  go_enter Tryz.func48, Tryz.ntmps48
  go_wp2_with fail
  refine HN.mono ?_
  rintro e w1 ⟨hm1, u, rfl, hown⟩
  have HNL : Hid ((neededL l).length = l.length) := neededL_len l
  generalize hnd : neededL l = nd at *
  have HND : Hid (neededL l = nd) := hnd
  clear hnd
  obtain ⟨uo, ucap, rfl, -⟩ := owns_form hown
  have hL1 := hL.mod hm1
  have hs1 := hm1.size
  clear HN hsm hL
  go_wp2_with fail
  go_loopw [4, 11] (fun v kv wr => ∃ k : Nat, k ≤ l.length ∧ kv = .int .i64 k ∧ PLst wr w1.heap.size v (keepTo l nd k) ∧ Mod (fun q => w1.heap.size ≤ q) w1 wr ∧ (keepTo l nd k).length ≤ k) (fun _ kv _ => l.length - (intOf kv).toNat)
  case atStart => exact ⟨0, by omega, rfl, World.ownsRow_nil _ _ _ _, Mod.refl _ _, Nat.le_refl _⟩
  case round =>
    obtain ⟨k, hk, rfl, hP, hm, hq⟩ := hrel
    unfold PLst at hP
    obtain ⟨po, pcap, rfl, -⟩ := owns_form hP
    have hmF : Mod (fun _ => False) w1 wr := hm.mono (fun q hq h => by omega)
    by_cases hlt : k < l.length
    · have hkn : k < nd.length := by rw [HNL.out]; exact hlt
      have hLr := hL1.mod hmF
      obtain ⟨gb, rfl, c0, c1, c2, c3⟩ := hLr.cell hlt
      have hownr := owns_mod hown hmF (fun _ _ f => f)
      obtain ⟨ub, rfl, ck⟩ := tvs_cell hownr HNL.out.symm hkn
      have hul := (hownr.lt ub rfl).2
      have hma := hm.alloc (.cells #[.int .u8 l[k].op, .int .u8 l[k].x, .int .u8 l[k].y, .int .u8 l[k].z] 107)
      have hPa := owns_mod hP ((Mod.refl (fun _ => False) wr).alloc (.cells #[.int .u8 l[k].op, .int .u8 l[k].x, .int .u8 l[k].y, .int .u8 l[k].z] 107)) (fun _ _ f => f)
      have hsr := hm.size
      clear hLr hownr hmF
      cases hdk : nd[k] with
      | false =>
        rw [hdk] at ck
        have HK : Hid (keepTo l nd (k + 1) = keepTo l nd k) := keepTo_no hkn hdk
        have HKN : Hid (PLst (wr.alloc (.cells #[.int .u8 l[k].op, .int .u8 l[k].x, .int .u8 l[k].y, .int .u8 l[k].z] 107)) w1.heap.size (.slice po (keepTo l nd k).length pcap) (keepTo l nd (k + 1))) := show PLst _ _ _ _ by
          rw [HK.out]; exact hPa
        generalize hkl : (keepTo l nd k).length = kl at *
        have HKL : Hid ((keepTo l nd (k + 1)).length ≤ k + 1) := show _ ≤ _ by rw [HK.out, hkl]; omega
        clear hkl hdk
        go_wp2_with fail
        go_roundw
        case rel => exact ⟨k + 1, by omega, by go_num, HKN.out, hma, HKL.out⟩
        case measure => simp [intOf]; omega
      | true =>
        rw [hdk] at ck
        have HK : Hid (keepTo l nd (k + 1) = keepTo l nd k ++ [l[k]]) := keepTo_yes hkn hlt hdk
        generalize hkt : keepTo l nd k = kt at *
        generalize l[k] = t at *
        clear hkt hdk
        go_wp2_with (at_builtin; refine wpList_append_own _ rfl _ _ 50 rfl w1.heap.size 107 i0 _ 4 4 Tryz.underlying50 hi hz0 hz1 hz2 rfl (by decide) _ _ _ rfl (hPa.alloc _) ⟨wr.heap.size + 1, 0, none⟩ 1 1 (pcells t) rfl rfl ?c1 ?c2 ?c3 ?c4 ?c5 ?_)
        case c1 => exact World.news_of_block (cs := #[.int .u8 t.op, .int .u8 t.x, .int .u8 t.y, .int .u8 t.z]) (t := 107) (fr := (0, 0)) (alloc2_at wr _ _).2
        case c2 => simp [pcells, Value.oneCell']
        case c3 => unfold maxLen; omega
        case c4 => omega
        case c5 => simp; omega
        intro v' w4 hown4 hgrow _
        have hgm : Mod (fun i => w1.heap.size ≤ i) wr w4 := (((Mod.refl _ wr).alloc _).alloc _).grown hgrow (fun i hi _ => (hP.lt i hi).1)
        have hm4 := hm.trans hgm
        have HP4 : Hid (PLst w4 w1.heap.size v' (keepTo l nd (k + 1))) := show PLst _ _ _ _ by
          rw [HK.out]; unfold PLst; rw [← pcellsOf_snoc]; simpa using hown4
        have HKL : Hid ((keepTo l nd (k + 1)).length ≤ k + 1) := show _ ≤ _ by rw [HK.out]; simp; omega
        clear hown4 hgrow hgm hP hPa hm hma
        go_wp2_with fail
        go_roundw
        case rel => exact ⟨k + 1, by omega, by go_num, HP4.out, hm4, HKL.out⟩
        case measure => simp [intOf]; omega
    · have hks : k = l.length := by omega
      subst hks
      have hE : PLst wr w.heap.size (.slice po (keepTo l nd l.length).length pcap) (keepTo l nd l.length) := owns_base hP (by omega)
      have hmE := hm1.trans hmF
      go_wp2_with fail
      go_ret
      exact ⟨hmE, _, rfl, by rw [HND.out]; exact hE⟩
end Go.Proofs.YtmnfndpbblpjiaaGreatDoor
