/- The program's differences of limbs; the limbs of a number of one word. -/
import Derived.Test.YtmnfndpbblpjiabGreatDoorZb25
namespace Go.Proofs.YtmnfndpbblpjiabGreatDoor
open Go.RowKit Pu

set_option maxHeartbeats 1600000 in
set_option maxRecDepth 4000 in
theorem diff_any (av bv : Value) (a b : List Nat) (abase bbase : Nat) (w : World) (hA : w.ownsRow abase 188 1 av a.length (uvs a)) (hB : w.ownsRow bbase 188 1 bv b.length (uvs b)) (da : D9 a) (db : D9 b) (hle : v9 b ≤ v9 a) (hlen : b.length ≤ a.length) (la : a.length ≤ 50000) :
    Calls Tryz.prog 206 #[av, bv] w (LimEnd w (v9 a - v9 b) a.length) := by
  obtain ⟨i0, hii, hz0, hz1, hz2⟩ := info_parts Tryz.infoU
  have HE : Hid (v9 (difTo a b a.length).1 = v9 a - v9 b) := dif_end da db hlen hle
  have HD9 : Hid (D9 (difTo a b a.length).1) := difTo_d9 a b _
  have HBR : Hid (∀ k, (difTo a b k).2 ≤ 1) := difTo_br a b
  have HDL : Hid (∀ k, (difTo a b k).1.length = a.length) := difTo_len a b
  have HDA : Hid (D9 a) := da
  have HDB : Hid (D9 b) := db
  generalize v9 a - v9 b = tot at *
  clear da db hle hlen
  obtain ⟨ao, acap, rfl, -⟩ := owns_form hA
  obtain ⟨bo, bcap, rfl, -⟩ := owns_form hB
  go_enter Tryz.func206, Tryz.ntmps206
  go_wp2_with (at_make; refine wpList_make_full _ rfl _ _ 139 rfl w.heap.size 188 i0 (.int .u64 0) 1 Tryz.underlying139 hii hz0 hz1 _ _ _ _ a.length rfl rfl (by omega) (by omega) (by rw [hz2]; omega) (by unfold maxLen; omega) (by simp) ?_)
  intro W hown0 hgrow0
  have hm0 := (Mod.refl (fun _ => False) w).grown hgrow0 (fun k hk _ => by cases hk)
  have hown1 : W.ownsRow w.heap.size 188 1 (.slice (some ⟨w.heap.size, 0, none⟩) a.length a.length) a.length (uvs (difTo a b 0).1) := by
    show W.ownsRow w.heap.size 188 1 (.slice (some ⟨w.heap.size, 0, none⟩) a.length a.length) a.length (uvs (List.replicate a.length 0))
    rw [← made_u]; simpa using hown0
  clear hgrow0 hown0
  have hwl : w.heap.size < W.heap.size := own_lt hown1 rfl
  have hmA : Mod (fun _ => False) W (W.alloc (.cells #[.slice (some ⟨w.heap.size, 0, none⟩) a.length a.length] 248)) := (Mod.refl _ W).alloc _
  have hT1 := tl_new W (.slice (some ⟨w.heap.size, 0, none⟩) a.length a.length)
  have HH : Hid _ := And.intro (owns_mod hown1 hmA (fun _ _ f => f)) (And.intro hT1 (hm0.trans hmA))
  clear hown1 hT1 hmA hm0
  go_wp2_with fail
  generalize W.alloc (.cells #[.slice (some ⟨w.heap.size, 0, none⟩) a.length a.length] 248) = W1 at *
  go_loopw [6, 15] (fun ov kv wr => ∃ k : Nat, k ≤ a.length ∧ kv = .int .i64 k ∧ ov = .int .u64 ((difTo a b k).2 : Int) ∧ wr.ownsRow w.heap.size 188 1 (.slice (some ⟨w.heap.size, 0, none⟩) a.length a.length) a.length (uvs (difTo a b k).1) ∧ Tl wr W.heap.size (.slice (some ⟨w.heap.size, 0, none⟩) a.length a.length) ∧ Mod (fun _ => False) w wr) (fun _ kv _ => a.length - (intOf kv).toNat)
  case atStart => exact ⟨0, by omega, rfl, rfl, HH.out.1, HH.out.2.1, HH.out.2.2⟩
  case round =>
    clear HH
    obtain ⟨k, hk, rfl, rfl, hO, hT, hm⟩ := hrel
    have t0 := hT.c0
    by_cases hlt : k < a.length
    · have hAr := owns_mod hA hm (fun _ _ f => f)
      have hBr := owns_mod hB hm (fun _ _ f => f)
      obtain ⟨ga, rfl, ca⟩ := uvs_cell hAr rfl hlt
      have hdk : k < (difTo a b k).1.length := by rw [HDL.out]; exact hlt
      obtain ⟨g2, hg2, cd⟩ := uvs_cell hO (HDL.out k).symm hdk
      injection hg2 with hg2
      injection hg2 with hg2
      subst hg2
      have hfz := hO.frozenAt k
      have hak : a[k] < 1000000000 := HDA.out _ (List.getElem_mem hlt)
      have hbk : b[k]?.getD 0 < 1000000000 := getD_lt HDB.out k
      have hbr := HBR.out k
      have hst : (wr.setCell ⟨w.heap.size, k, none⟩ (.int .u64 ((rest a b k (difTo a b k).2 % 1000000000 : Nat) : Int))).ownsRow w.heap.size 188 1 (.slice (some ⟨w.heap.size, 0, none⟩) a.length a.length) a.length (uvs (difTo a b (k + 1)).1) := by
        show World.ownsRow _ _ _ _ _ _ (uvs ((difTo a b k).1.set k (rest a b k (difTo a b k).2 % 1000000000)))
        rw [← uvs_set]; exact (hO.stored k _).1
      have hmq : Mod (fun q => q = w.heap.size) wr (wr.setCell ⟨w.heap.size, k, none⟩ (.int .u64 ((rest a b k (difTo a b k).2 % 1000000000 : Nat) : Int))) := (Mod.refl _ wr).setCell ⟨w.heap.size, k, none⟩ _ (fun _ => rfl)
      have hm2 : Mod (fun _ => False) w (wr.setCell ⟨w.heap.size, k, none⟩ (.int .u64 ((rest a b k (difTo a b k).2 % 1000000000 : Nat) : Int))) := hm.setCell ⟨w.heap.size, k, none⟩ _ (fun h => absurd h (Nat.lt_irrefl _))
      have hT2 : Tl (wr.setCell ⟨w.heap.size, k, none⟩ (.int .u64 ((rest a b k (difTo a b k).2 % 1000000000 : Nat) : Int))) W.heap.size (.slice (some ⟨w.heap.size, 0, none⟩) a.length a.length) := hT.keep hmq (by omega)
      have HN2 : Hid ((difTo a b (k + 1)).2 = 1 - rest a b k (difTo a b k).2 / 1000000000) := rfl
      have HST : Hid _ := And.intro hst (And.intro hT2 hm2)
      have HRS : Hid (rest a b k (difTo a b k).2 = 1000000000 + a[k] - (difTo a b k).2 - b[k]?.getD 0) := show _ = _ by simp [rest, hlt]
      clear hst hm2 hT2 hmq hAr
      generalize rest a b k (difTo a b k).2 = rs at *
      by_cases hkb : k < b.length
      · obtain ⟨gb, rfl, cb⟩ := uvs_cell hBr rfl hkb
        have HG : Hid (b[k]?.getD 0 = b[k]) := show _ = _ by simp [hkb]
        rw [HG.out] at HRS hbk
        clear hBr HG
        generalize a[k] = x at *
        generalize b[k] = y at *
        generalize (difTo a b k).2 = br at *
        have hrs : rs = 1000000000 + x - br - y := HRS.out
        have w1 : IntKind.u64.wrap ((1000000000 : Int) + (x : Int)) = (1000000000 : Int) + (x : Int) := wrap_u64 (by omega) (by omega)
        have w2 : IntKind.u64.wrap ((1000000000 : Int) + (x : Int) - (br : Int)) = (1000000000 : Int) + (x : Int) - (br : Int) := wrap_u64 (by omega) (by omega)
        have w3 : IntKind.u64.wrap ((1000000000 : Int) + (x : Int) - (br : Int) - (y : Int)) = (rs : Int) := by rw [wrap_u64 (by omega) (by omega)]; omega
        have w4 : IntKind.u64.wrap ((1 : Int) - (rs : Int) / 1000000000) = (1 : Int) - (rs : Int) / 1000000000 := wrap_u64 (by omega) (by omega)
        have hrl : rs < 2000000000 := by omega
        clear hrs HRS
        go_wp2_with fail
        go_roundw
        case rel =>
          have h2 := HST.out
          exact ⟨k + 1, by omega, by go_num, by rw [HN2.out]; congr 1; omega, h2.1, h2.2.1, h2.2.2⟩
        case measure => simp [intOf]; omega
      · have HG : Hid (b[k]?.getD 0 = 0) := show _ = _ by simp [hkb]
        rw [HG.out] at HRS hbk
        clear hBr HG
        generalize a[k] = x at *
        generalize (difTo a b k).2 = br at *
        have hrs : rs = 1000000000 + x - br := by have := HRS.out; omega
        have w1 : IntKind.u64.wrap ((1000000000 : Int) + (x : Int)) = (1000000000 : Int) + (x : Int) := wrap_u64 (by omega) (by omega)
        have w2 : IntKind.u64.wrap ((1000000000 : Int) + (x : Int) - (br : Int)) = (rs : Int) := by rw [wrap_u64 (by omega) (by omega)]; omega
        have w4 : IntKind.u64.wrap ((1 : Int) - (rs : Int) / 1000000000) = (1 : Int) - (rs : Int) / 1000000000 := wrap_u64 (by omega) (by omega)
        have hrl : rs < 2000000000 := by omega
        clear hrs HRS
        go_wp2_with fail
        go_roundw
        case rel =>
          have h2 := HST.out
          exact ⟨k + 1, by omega, by go_num, by rw [HN2.out]; congr 1; omega, h2.1, h2.2.1, h2.2.2⟩
        case measure => simp [intOf]; omega
    · have hks : k = a.length := by omega
      subst hks
      have r4 := done_end hT hO (HDL.out _) (by omega) HD9.out HE.out hm
      clear hO hT t0 hm
      go_wp2_with fail
      refine r4.mono ?_
      rintro e W5 ⟨hm5, v5, l5, rfl, hE⟩
      have HE5 : Hid _ := hE
      clear hE
      go_wp2_with fail
      go_ret
      exact ⟨hm5, v5, l5, rfl, HE5.out⟩

set_option maxHeartbeats 800000 in
set_option maxRecDepth 4000 in
theorem limbs_any (n : Nat) (w : World) (hn : n ≤ 1000000) : Calls Tryz.prog 198 #[.int .u64 n] w (LimEnd w n 3) := by
  have hO0 : (w.alloc (.cells #[.int .u64 n, .int .u64 0, .int .u64 0] 188)).ownsRow w.heap.size 188 1 (.slice (some ⟨w.heap.size, 0, none⟩) 3 3) 3 (uvs [n, 0, 0]) :=
    ⟨by simp [uvs], .inr ⟨w.heap.size, 3, #[.int .u64 n, .int .u64 0, .int .u64 0], rfl, Nat.le_refl _, heap_alloc_new w _, Nat.le_refl _, by unfold maxLen; omega, by simp, by simp [uvs]⟩⟩
  have hT := tl_new (w.alloc (.cells #[.int .u64 n, .int .u64 0, .int .u64 0] 188)) (.slice (some ⟨w.heap.size, 0, none⟩) 3 3)
  have hmA : Mod (fun _ => False) (w.alloc (.cells #[.int .u64 n, .int .u64 0, .int .u64 0] 188)) ((w.alloc (.cells #[.int .u64 n, .int .u64 0, .int .u64 0] 188)).alloc (.cells #[.slice (some ⟨w.heap.size, 0, none⟩) 3 3] 248)) := (Mod.refl _ _).alloc _
  have hm1 : Mod (fun _ => False) w ((w.alloc (.cells #[.int .u64 n, .int .u64 0, .int .u64 0] 188)).alloc (.cells #[.slice (some ⟨w.heap.size, 0, none⟩) 3 3] 248)) := ((Mod.refl _ w).alloc _).trans hmA
  have hO1 := owns_mod hO0 hmA (fun _ _ f => f)
  simp only [World.size_alloc] at hT
  have HH : Hid _ := And.intro hO1 (And.intro hT hm1)
  clear hO0 hT hmA hm1 hO1
  go_enter Tryz.func198, Tryz.ntmps198
  go_wp2_with fail
  generalize (w.alloc (.cells #[.int .u64 n, .int .u64 0, .int .u64 0] 188)).alloc (.cells #[.slice (some ⟨w.heap.size, 0, none⟩) 3 3] 248) = W1 at *
  obtain ⟨hO1, hT1, hm1⟩ := HH.out
  clear HH
  have hb : Bd [n, 0, 0] 1000000 := fun x hx => by simp at hx; omega
  have r3 := carry_any (w.heap.size + 1) w.heap.size 3 [n, 0, 0] 1000000 w.heap.size W1 hT1 hO1 (by omega) (by simp) hb (by omega)
  have hce := car_end (L := [n, 0, 0]) (k := 3) rfl (by simp [v9]; omega)
  have hl4 : (carTo [n, 0, 0] 3).1.length = 3 := by rw [carTo_len]; rfl
  have hv0 : v9 [n, 0, 0] = n := by simp [v9]
  rw [hv0] at hce
  have r3' : Calls Tryz.prog 202 #[.pointer (some ⟨w.heap.size + 1, 0, none⟩)] W1 fun e w' => e = .returned (.tuple #[]) ∧ Mod (fun q => q = w.heap.size) W1 w' ∧ w'.ownsRow w.heap.size 188 1 (.slice (some ⟨w.heap.size, 0, none⟩) 3 3) 3 (uvs (carTo [n, 0, 0] 3).1) := r3
  clear r3 hv0 hb
  generalize (carTo [n, 0, 0] 3).1 = L4 at *
  refine r3'.mono ?_
  rintro e W4 ⟨rfl, hm4, hO4⟩
  have hm4' : Mod (fun _ => False) w W4 := ((hm1.mono (q := fun q => q = w.heap.size) (fun _ _ f => f.elim)).trans hm4).mono (fun q hq h => by omega)
  have hT4 : Tl W4 (w.heap.size + 1) (.slice (some ⟨w.heap.size, 0, none⟩) 3 3) := hT1.keep hm4 (by omega)
  have r4 := done_end hT4 hO4 hl4 (by omega) hce.1 hce.2 hm4'
  clear hce hl4 r3' hO1 hT1 hm1 hm4 hm4' hT4 hO4
  go_wp2_with fail
  refine r4.mono ?_
  rintro e W5 ⟨hm5, v5, l5, rfl, hE⟩
  have HE5 : Hid _ := hE
  clear hE
  go_wp2_with fail
  go_ret
  exact ⟨hm5, v5, l5, rfl, HE5.out⟩
end Go.Proofs.YtmnfndpbblpjiabGreatDoor
