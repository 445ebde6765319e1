/- The program's rows of limbs: carry, done. -/
import Derived.Test.YtmnfndpbblpjiabGreatDoorZb22
import Derived.Test.YtmnfndpbblpjiabGreatDoorZb11
namespace Go.Proofs.YtmnfndpbblpjiabGreatDoor
open Go.RowKit Pu

set_option maxHeartbeats 1600000 in
set_option maxRecDepth 4000 in
theorem carry_any (tb gt tcap : Nat) (L : List Nat) (M base : Nat) (w : World) (hT : Tl w tb (.slice (some ⟨gt, 0, none⟩) L.length tcap)) (hL : w.ownsRow base 188 1 (.slice (some ⟨gt, 0, none⟩) L.length tcap) L.length (uvs L))
    (hnt : tb ≠ gt) (hl : L.length ≤ 100000) (hM : Bd L M) (hMM : M ≤ 17000000000000000000) :
    Calls Tryz.prog 202 #[.pointer (some ⟨tb, 0, none⟩)] w fun e w' => e = .returned (.tuple #[]) ∧ Mod (fun q => q = gt) w w' ∧ w'.ownsRow base 188 1 (.slice (some ⟨gt, 0, none⟩) L.length tcap) L.length (uvs (carTo L L.length).1) := by
  have HO : Hid (∀ k, (carTo L k).2 ≤ 18000000000) := fun k => carTo_over hM hMM k
  have HFar : Hid (∀ k, (carTo L k).1[k]? = L[k]?) := fun k => carTo_far L k k (Nat.le_refl _)
  have HM : Hid (Bd L M) := hM
  have HRL : Hid (∀ k, (carTo L k).1.length = L.length) := fun k => carTo_len L k
  have t00 := hT.c0
  clear hM
  go_enter Tryz.func202, Tryz.ntmps202
  go_wp2_with fail
  go_loopw [2, 10] (fun ov kv wr => ∃ k : Nat, k ≤ L.length ∧ kv = .int .i64 k ∧ ov = .int .u64 ((carTo L k).2 : Int) ∧ wr.ownsRow base 188 1 (.slice (some ⟨gt, 0, none⟩) L.length tcap) L.length (uvs (carTo L k).1) ∧ Mod (fun q => q = gt) w wr) (fun _ kv _ => L.length - (intOf kv).toNat)
  case atStart => exact ⟨0, by omega, rfl, rfl, hL, Mod.refl _ _⟩
  case round =>
    clear hL t00
    obtain ⟨k, hk, rfl, rfl, hown, hm⟩ := hrel
    have t0 := (hT.keep hm hnt).c0
    by_cases hlt : k < L.length
    · have hak : k < (carTo L k).1.length := by rw [HRL.out]; exact hlt
      obtain ⟨g2, hg2, ca⟩ := uvs_cell hown (HRL.out k).symm hak
      injection hg2 with hg2
      injection hg2 with hg2
      subst hg2
      have hfz := hown.frozenAt k
      have hxM : (carTo L k).1[k] ≤ M := by
        have h1 := HFar.out k
        rw [List.getElem?_eq_getElem hak, List.getElem?_eq_getElem hlt] at h1
        rw [Option.some.inj h1]
        exact HM.out.at hlt
      have hov := HO.out k
      have HNX : Hid (carTo L (k + 1) = ((carTo L k).1.set k (((carTo L k).1[k] + (carTo L k).2) % 1000000000), ((carTo L k).1[k] + (carTo L k).2) / 1000000000)) := show _ = _ by simp [carTo, hak]
      have hst : (wr.setCell ⟨gt, k, none⟩ (.int .u64 ((((carTo L k).1[k] + (carTo L k).2) % 1000000000 : Nat) : Int))).ownsRow base 188 1 (.slice (some ⟨gt, 0, none⟩) L.length tcap) L.length (uvs (carTo L (k + 1)).1) := by
        rw [HNX.out, ← uvs_set]; exact (hown.stored k _).1
      have hm2 : Mod (fun q => q = gt) w (wr.setCell ⟨gt, k, none⟩ (.int .u64 ((((carTo L k).1[k] + (carTo L k).2) % 1000000000 : Nat) : Int))) := hm.setCell ⟨gt, k, none⟩ _ (fun _ => rfl)
      have HN2 : Hid ((carTo L (k + 1)).2 = ((carTo L k).1[k] + (carTo L k).2) / 1000000000) := show _ = _ by rw [HNX.out]
      have HST : Hid _ := And.intro hst hm2
      clear hst hm2 hown HNX
      generalize (carTo L k).1[k] = x at *
      generalize (carTo L k).2 = y at *
      have w1 : IntKind.u64.wrap ((x : Int) + (y : Int)) = (x : Int) + (y : Int) := wrap_u64 (by omega) (by omega)
      go_wp2_with fail
      go_roundw
      case rel =>
        have h2 := HST.out
        rw [show (((x + y) % 1000000000 : Nat) : Int) = ((x : Int) + (y : Int)) % 1000000000 by omega] at h2
        exact ⟨k + 1, by omega, by go_num, by rw [HN2.out]; congr 1, h2.1, h2.2⟩
      case measure => simp [intOf]; omega
    · have hks : k = L.length := by omega
      subst hks
      go_wp2_with fail
      exact bodyPost_end (v := .tuple #[]) (by simp [results, Tryz.results202]) rfl ⟨rfl, hm, hown⟩

theorem owns_take {w : World} {base : Nat} {e : TypeId} {g n cap : Nat} {l : List Nat} (h : w.ownsRow base e 1 (.slice (some ⟨g, 0, none⟩) n cap) n (uvs l)) (m : Nat) (hm : m ≤ n) : w.ownsRow base e 1 (.slice (some ⟨g, 0, none⟩) m cap) m (uvs (l.take m)) := by
  obtain ⟨hl, ⟨he, _⟩ | ⟨g', cap', cur, he, hb, hg, h1, h2, h3, h4⟩⟩ := h
  · simp at he
  · simp at he
    obtain ⟨rfl, rfl⟩ := he
    have hll : l.length = n := by simpa [uvs] using hl
    refine ⟨by simp [uvs]; omega, .inr ⟨g, cap, cur, rfl, hb, hg, by omega, h2, h3, ?_⟩⟩
    have : (uvs (l.take m)) = (uvs l).take m := by simp [uvs, List.map_take]
    rw [this, ← h4, List.take_take]
    congr 1
    omega
set_option maxHeartbeats 1600000 in
set_option maxRecDepth 4000 in
theorem done_any (tb gt tcap : Nat) (L : List Nat) (base : Nat) (w : World) (hT : Tl w tb (.slice (some ⟨gt, 0, none⟩) L.length tcap)) (hL : w.ownsRow base 188 1 (.slice (some ⟨gt, 0, none⟩) L.length tcap) L.length (uvs L)) (hl : L.length ≤ 100000) :
    Calls Tryz.prog 203 #[.pointer (some ⟨tb, 0, none⟩)] w fun e w' => Mod (fun _ => False) w w' ∧ ∃ n ao, e = .returned (.slice ao n tcap) ∧ n ≤ L.length ∧ w'.ownsRow base 188 1 (.slice ao n tcap) n (uvs (L.take n)) ∧ v9 (L.take n) = v9 L ∧ T9 (L.take n) := by
  have t0 := hT.c0
  go_enter Tryz.func203, Tryz.ntmps203
  go_wp2_with fail
  go_loop [3] (fun kv => ∃ n : Nat, n ≤ L.length ∧ kv = .int .i64 n ∧ Hid (v9 (L.take n) = v9 L)) (fun kv => (intOf kv).toNat)
  case atStart => exact ⟨L.length, by omega, rfl, show v9 _ = _ by rw [List.take_length]⟩
  case round =>
    obtain ⟨n, hn, rfl, HV⟩ := hrel
    have hcap : L.length ≤ tcap := by
      obtain ⟨_, ⟨he, _⟩ | ⟨g', cap', cur, he, _, _, h1, _⟩⟩ := hL
      · simp at he
      · simp at he; omega
    have hE := owns_take hL n hn
    rcases Nat.eq_zero_or_pos n with hz | hz
    · have HT : Hid (T9 (L.take n)) := by subst hz; intro d hd; simp at hd
      have hn0 : ¬ (0 : Int) < (n : Int) := by omega
      have hn1 : (n : Int) ≤ 0 := by omega
      clear hz
      go_wp2_with fail
      go_ret
      exact ⟨Mod.refl _ _, n, _, rfl, hn, hE, HV.out, HT.out⟩
    · obtain ⟨m, rfl⟩ : ∃ j, n = j + 1 := ⟨n - 1, by omega⟩
      clear hz
      have hml : m < L.length := by omega
      obtain ⟨gb, hgb, cm⟩ := uvs_cell hL rfl hml
      injection hgb with hgb
      injection hgb with hgb
      subst hgb
      have HTK : Hid (L.take (m + 1) = L.take m ++ [L[m]]) := show _ = _ by rw [List.take_succ_eq_append_getElem hml]
      by_cases h0 : L[m] = 0
      · have HV2 : Hid (v9 (L.take m) = v9 L) := show v9 (L.take m) = v9 L by rw [← HV.out, HTK.out, h0, v9_zero_top]
        have hb : ((L[m] : Int) == 0) = true := beq_t (m := 0) h0
        clear h0
        go_wp2_with fail
        go_round
        case rel => exact ⟨m, by omega, by go_num, HV2⟩
        case measure => simp [intOf]
      · have hb : ((L[m] : Int) == 0) = false := beq_f (m := 0) h0
        have HT : Hid (T9 (L.take (m + 1))) := show T9 _ by
          intro d hd
          rw [HTK.out, List.getLast?_concat] at hd
          injection hd with hd
          rw [← hd]; exact h0
        clear h0
        go_wp2_with fail
        go_ret
        exact ⟨Mod.refl _ _, m + 1, _, rfl, hn, hE, HV.out, HT.out⟩
end Go.Proofs.YtmnfndpbblpjiabGreatDoor

/- The program's sums of limbs. -/
namespace Go.Proofs.YtmnfndpbblpjiabGreatDoor
open Go.RowKit Pu

theorem Tryz.infoU : (Tryz.prog.info? 188).map (fun i => (i.zero, i.size, i.bytes)) = some (some (.int .u64 0), 1, 8) := by kernel_rfl
theorem made_u (n : Nat) : (madeCells #[Value.int .u64 0] (n * 1)).toList = uvs (List.replicate n 0) := by rw [toList_madeCells_one]; simp [uvs]
def LimEnd (w : World) (x : Nat) (n : Nat) (e : Ending) (w' : World) : Prop := Mod (fun _ => False) w w' ∧ ∃ v l, e = .returned v ∧ w'.ownsRow w.heap.size 188 1 v l.length (uvs l) ∧ D9 l ∧ T9 l ∧ v9 l = x ∧ l.length ≤ n
theorem rep0_bd (n : Nat) : Bd (List.replicate n 0) 0 := fun x hx => by rw [List.eq_of_mem_replicate hx]; exact Nat.le_refl _
theorem d9_take {l : List Nat} (h : D9 l) (n : Nat) : D9 (l.take n) := fun d hd => h d (List.mem_of_mem_take hd)
theorem tl_new (w : World) (v : Value) : Tl (w.alloc (.cells #[v] 248)) w.heap.size v := heap_alloc_new w _
theorem own_lt {w : World} {base n : Nat} {v : Value} {xs : List Value} (h : w.ownsRow base 188 1 v n xs) {g : Nat} (hg : v.ownBlock = some g) : g < w.heap.size := (h.lt g hg).2

theorem done_end {w W : World} {tb gt n : Nat} {L : List Nat} {x : Nat} (hT : Tl W tb (.slice (some ⟨gt, 0, none⟩) n n)) (hO : W.ownsRow w.heap.size 188 1 (.slice (some ⟨gt, 0, none⟩) n n) n (uvs L)) (hl : L.length = n) (hn : n ≤ 100000) (hd : D9 L) (hv : v9 L = x) (hm : Mod (fun _ => False) w W) :
    Calls Tryz.prog 203 #[.pointer (some ⟨tb, 0, none⟩)] W (LimEnd w x n) := by
  subst hl
  refine (done_any tb gt L.length L w.heap.size W hT hO hn).mono ?_
  rintro e w' ⟨hm', k, ao, rfl, hk, hown, hvk, htk⟩
  have hlen : (L.take k).length = k := by simp; omega
  exact ⟨hm.trans hm', _, L.take k, rfl, by rw [hlen]; exact hown, d9_take hd k, htk, hvk.trans hv, by omega⟩
set_option maxHeartbeats 1600000 in
set_option maxRecDepth 4000 in
theorem total_any (av bv : Value) (a b : List Nat) (abase bbase : Nat) (w : World) (hA : w.ownsRow abase 188 1 av a.length (uvs a)) (hB : w.ownsRow bbase 188 1 bv b.length (uvs b)) (da : D9 a) (db : D9 b) (la : a.length ≤ 50000) (lb : b.length ≤ 50000) :
    Calls Tryz.prog 204 #[av, bv] w (LimEnd w (v9 a + v9 b) (max a.length b.length + 1)) := by
  obtain ⟨i0, hii, hz0, hz1, hz2⟩ := info_parts Tryz.infoU
  obtain ⟨m, hm, hma, hmb⟩ : ∃ m, max a.length b.length = m ∧ a.length ≤ m ∧ b.length ≤ m := ⟨_, rfl, Nat.le_max_left _ _, Nat.le_max_right _ _⟩
  have HMX : Hid (max a.length b.length = m) := hm
  have hml : m ≤ 50000 := by omega
  have hcs : (a.length < b.length ∧ m = b.length) ∨ (¬ a.length < b.length ∧ m = a.length) := by omega
  clear hm
  have HV : Hid (v9 a + v9 b < 1000000000 ^ (m + 1)) := show _ < _ by
    have h1 := v9_lt da
    have h2 := v9_lt db
    have h3 : 1000000000 ^ a.length ≤ 1000000000 ^ m := Nat.pow_le_pow_right (by omega) hma
    have h4 : 1000000000 ^ b.length ≤ 1000000000 ^ m := Nat.pow_le_pow_right (by omega) hmb
    rw [Nat.pow_succ]
    omega
  rw [HMX.out]
  obtain ⟨ao, acap, rfl, -⟩ := owns_form hA
  obtain ⟨bo, bcap, rfl, -⟩ := owns_form hB
  rcases hcs with ⟨hc, hcm⟩ | ⟨hc, hcm⟩
  all_goals
    have HCM : Hid _ := hcm
    clear hcm
    go_enter Tryz.func204, Tryz.ntmps204
    go_wp2_with (at_make; refine wpList_make_full _ rfl _ _ 139 rfl w.heap.size 188 i0 (.int .u64 0) 1 Tryz.underlying139 hii hz0 hz1 _ _ _ _ (m + 1) rfl rfl (by have := HCM.out; omega) (by have := HCM.out; omega) (by rw [hz2]; omega) (by unfold maxLen; omega) (by simp) ?_)
    intro W hown0 hgrow0
    have hm0 := (Mod.refl (fun _ => False) w).grown hgrow0 (fun k hk _ => by cases hk)
    have hown1 : W.ownsRow w.heap.size 188 1 (.slice (some ⟨w.heap.size, 0, none⟩) (m + 1) (m + 1)) (m + 1) (uvs (List.replicate (m + 1) 0)) := by
      rw [← made_u]; simpa using hown0
    clear hgrow0 hown0
    have hwl : w.heap.size < W.heap.size := own_lt hown1 rfl
    have hmA : Mod (fun _ => False) W (W.alloc (.cells #[.slice (some ⟨w.heap.size, 0, none⟩) (m + 1) (m + 1)] 248)) := (Mod.refl _ W).alloc _
    have hT1 := tl_new W (.slice (some ⟨w.heap.size, 0, none⟩) (m + 1) (m + 1))
    have HH : Hid _ := And.intro (owns_mod hown1 hmA (fun _ _ f => f)) (And.intro hT1 (hm0.trans hmA))
    clear hown1 hT1 hmA hm0
    go_wp2_with fail
    generalize W.alloc (.cells #[.slice (some ⟨w.heap.size, 0, none⟩) (m + 1) (m + 1)] 248) = W1 at *
    obtain ⟨hO1, hT1, hm1⟩ := HH.out
    clear HH
    have hrl : (List.replicate (m + 1) 0).length = m + 1 := by simp
    have r1 := addrow_any W.heap.size w.heap.size (m + 1) (.slice ao a.length acap) (List.replicate (m + 1) 0) a 0 1 0 w.heap.size abase W1 (by rw [hrl]; exact hT1) (by rw [hrl]; exact hO1) (owns_mod hA hm1 (fun _ _ f => f)) (fun g hg e => by have := own_lt hA hg; omega) (by omega) (by omega) (by omega) (rep0_bd _) da (by omega) (by omega)
    rw [hrl] at r1
    refine r1.mono ?_
    rintro e W2 ⟨rfl, hm2, hO2⟩
    have hm2' : Mod (fun _ => False) w W2 := ((hm1.mono (q := fun q => q = w.heap.size) (fun _ _ f => f.elim)).trans hm2).mono (fun q hq h => by omega)
    have hT2 : Tl W2 W.heap.size (.slice (some ⟨w.heap.size, 0, none⟩) (m + 1) (m + 1)) := hT1.keep hm2 (by omega)
    have hl2 : (rowTo (List.replicate (m + 1) 0) 0 a 1 a.length).length = m + 1 := by rw [rowTo_len]; exact hrl
    have hb2 : Bd (rowTo (List.replicate (m + 1) 0) 0 a 1 a.length) 999999999 := by simpa using rowTo_bd (a := 0) (f := 1) (rep0_bd (m + 1)) da.bd a.length
    have hv2 : v9 (rowTo (List.replicate (m + 1) 0) 0 a 1 a.length) = v9 a := by rw [rowTo_val _ _ _ _ _ (Nat.le_refl _) (by omega), v9_zeros, List.take_length]; simp
    generalize rowTo (List.replicate (m + 1) 0) 0 a 1 a.length = L2 at *
    clear r1 hO1 hT1 hm1 hm2
    have r2 := addrow_any W.heap.size w.heap.size (m + 1) (.slice bo b.length bcap) L2 b 0 1 999999999 w.heap.size bbase W2 (by rw [hl2]; exact hT2) (by rw [hl2]; exact hO2) (owns_mod hB hm2' (fun _ _ f => f)) (fun g hg e => by have := own_lt hB hg; omega) (by omega) (by omega) (by omega) hb2 db (by omega) (by omega)
    rw [hl2] at r2
    have HL2 : Hid (L2.length = m + 1) := hl2
    have HV2 : Hid (v9 L2 = v9 a) := hv2
    clear hl2 hrl hv2
    go_wp2_with fail
    refine r2.mono ?_
    rintro e W3 ⟨rfl, hm3, hO3⟩
    have hm3' : Mod (fun _ => False) w W3 := ((hm2'.mono (q := fun q => q = w.heap.size) (fun _ _ f => f.elim)).trans hm3).mono (fun q hq h => by omega)
    have hT3 : Tl W3 W.heap.size (.slice (some ⟨w.heap.size, 0, none⟩) (m + 1) (m + 1)) := hT2.keep hm3 (by omega)
    have hl3 : (rowTo L2 0 b 1 b.length).length = m + 1 := by rw [rowTo_len]; exact HL2.out
    have hb3 : Bd (rowTo L2 0 b 1 b.length) 1999999998 := by simpa using rowTo_bd (a := 0) (f := 1) hb2 db.bd b.length
    have hv3 : v9 (rowTo L2 0 b 1 b.length) = v9 a + v9 b := by rw [rowTo_val _ _ _ _ _ (Nat.le_refl _) (by rw [HL2.out]; omega), HV2.out, List.take_length]; simp
    generalize rowTo L2 0 b 1 b.length = L3 at *
    clear r2 hO2 hT2 hm2' hm3 hb2
    have r3 := carry_any W.heap.size w.heap.size (m + 1) L3 1999999998 w.heap.size W3 (by rw [hl3]; exact hT3) (by rw [hl3]; exact hO3) (by omega) (by omega) hb3 (by omega)
    have hce := car_end (L := L3) hl3.symm (by rw [hv3, hl3]; exact HV.out)
    have hl4 : (carTo L3 (m + 1)).1.length = m + 1 := by rw [carTo_len]; exact hl3
    rw [hv3] at hce
    rw [hl3] at r3
    generalize (carTo L3 (m + 1)).1 = L4 at *
    have HX : Hid _ := And.intro hce hl4
    clear hl3 hce hl4 hv3
    go_wp2_with fail
    refine r3.mono ?_
    rintro e W4 ⟨rfl, hm4, hO4⟩
    have hm4' : Mod (fun _ => False) w W4 := ((hm3'.mono (q := fun q => q = w.heap.size) (fun _ _ f => f.elim)).trans hm4).mono (fun q hq h => by omega)
    have hT4 : Tl W4 W.heap.size (.slice (some ⟨w.heap.size, 0, none⟩) (m + 1) (m + 1)) := hT3.keep hm4 (by omega)
    obtain ⟨⟨hd4, hv4⟩, hl4⟩ := HX.out
    have r4 := done_end hT4 hO4 hl4 (by omega) hd4 hv4 hm4'
    clear hd4 hv4 hl4 HX r3 hO3 hT3 hm3' hm4 hm4' hT4 hO4
    go_wp2_with fail
    refine r4.mono ?_
    rintro e W5 ⟨hm5, v5, l5, rfl, hE⟩
    have HE : Hid _ := hE
    clear hE
    go_wp2_with fail
    go_ret
    exact ⟨hm5, v5, l5, rfl, HE.out⟩
end Go.Proofs.YtmnfndpbblpjiabGreatDoor

/- The program's products of limbs. -/
namespace Go.Proofs.YtmnfndpbblpjiabGreatDoor
open Go.RowKit Pu

theorem bd_mono {L : List Nat} {M N : Nat} (h : Bd L M) (hn : M ≤ N) : Bd L N := fun x hx => Nat.le_trans (h x hx) hn
theorem take_lt {a : List Nat} (da : D9 a) (k : Nat) : v9 (a.take k) < 1000000000 ^ a.length :=
  Nat.lt_of_lt_of_le (v9_lt (d9_take da k)) (Nat.pow_le_pow_right (by omega) (by simp; omega))
theorem prod_lt {a b : List Nat} (da : D9 a) (db : D9 b) (k : Nat) : v9 (a.take k) * v9 b < 1000000000 ^ (a.length + b.length) := by
  rw [Nat.pow_add]
  exact Nat.mul_lt_mul'' (take_lt da k) (v9_lt db)
theorem prod_step {a b : List Nat} {k : Nat} (hk : k < a.length) : v9 (a.take (k + 1)) * v9 b = v9 (a.take k) * v9 b + 1000000000 ^ k * (a[k] * v9 b) := by
  rw [v9_take a k hk, Nat.add_mul, Nat.mul_assoc]

set_option maxHeartbeats 1600000 in
set_option maxRecDepth 4000 in
theorem product_any (av bv : Value) (a b : List Nat) (abase bbase : Nat) (w : World) (hA : w.ownsRow abase 188 1 av a.length (uvs a)) (hB : w.ownsRow bbase 188 1 bv b.length (uvs b)) (da : D9 a) (db : D9 b) (la : a.length ≤ 40000) (lb : b.length ≤ 40000) :
    Calls Tryz.prog 201 #[av, bv] w (LimEnd w (v9 a * v9 b) (a.length + b.length)) := by
  obtain ⟨i0, hii, hz0, hz1, hz2⟩ := info_parts Tryz.infoU
  obtain ⟨n, hn⟩ : ∃ n, a.length + b.length = n := ⟨_, rfl⟩
  have HN : Hid (a.length + b.length = n) := hn
  have hnl : n ≤ 80000 := by omega
  have hnb : b.length ≤ n := by omega
  clear hn
  have HP : Hid (∀ k, v9 (a.take k) * v9 b < 1000000000 ^ n) := fun k => by rw [← HN.out]; exact prod_lt da db k
  have HST : Hid (∀ (k : Nat) (hk : k < a.length), v9 (a.take (k + 1)) * v9 b = v9 (a.take k) * v9 b + 1000000000 ^ k * (a[k] * v9 b)) := fun k hk => prod_step hk
  have HDA : Hid (D9 a) := da
  have HDB : Hid (D9 b) := db
  have HTA : Hid (v9 (a.take a.length) = v9 a) := show _ = _ by rw [List.take_length]
  clear da db
  rw [HN.out]
  obtain ⟨ao, acap, rfl, -⟩ := owns_form hA
  obtain ⟨bo, bcap, rfl, -⟩ := owns_form hB
  go_enter Tryz.func201, Tryz.ntmps201
  go_wp2_with (at_make; refine wpList_make_full _ rfl _ _ 139 rfl w.heap.size 188 i0 (.int .u64 0) 1 Tryz.underlying139 hii hz0 hz1 _ _ _ _ n rfl rfl (by have := HN.out; omega) (by have := HN.out; omega) (by rw [hz2]; omega) (by unfold maxLen; omega) (by simp) ?_)
  intro W hown0 hgrow0
  have hm0 := (Mod.refl (fun _ => False) w).grown hgrow0 (fun k hk _ => by cases hk)
  have hown1 : W.ownsRow w.heap.size 188 1 (.slice (some ⟨w.heap.size, 0, none⟩) n n) n (uvs (List.replicate n 0)) := by
    rw [← made_u]; simpa using hown0
  clear hgrow0 hown0
  have hwl : w.heap.size < W.heap.size := own_lt hown1 rfl
  have hmA : Mod (fun _ => False) W (W.alloc (.cells #[.slice (some ⟨w.heap.size, 0, none⟩) n n] 248)) := (Mod.refl _ W).alloc _
  have hT1 := tl_new W (.slice (some ⟨w.heap.size, 0, none⟩) n n)
  have HH : Hid _ := And.intro (owns_mod hown1 hmA (fun _ _ f => f)) (And.intro hT1 (hm0.trans hmA))
  clear hown1 hT1 hmA hm0
  go_wp2_with fail
  generalize W.alloc (.cells #[.slice (some ⟨w.heap.size, 0, none⟩) n n] 248) = W1 at *
  go_loopw [16] (fun kv wr => ∃ (k : Nat) (L : List Nat), k ≤ a.length ∧ kv = .int .i64 k ∧ Hid (L.length = n ∧ v9 L = v9 (a.take k) * v9 b ∧ Bd L (999999999 + (k % 16) * 999999998000000001)) ∧ wr.ownsRow w.heap.size 188 1 (.slice (some ⟨w.heap.size, 0, none⟩) n n) n (uvs L) ∧ Tl wr W.heap.size (.slice (some ⟨w.heap.size, 0, none⟩) n n) ∧ Mod (fun _ => False) w wr) (fun kv _ => a.length - (intOf kv).toNat)
  case atStart => exact ⟨0, List.replicate n 0, by omega, rfl, ⟨by simp, by rw [v9_zeros]; simp [v9], bd_mono (rep0_bd n) (by omega)⟩, HH.out.1, HH.out.2.1, HH.out.2.2⟩
  case round =>
    clear HH
    obtain ⟨k, L, hk, rfl, HL, hO, hT, hm⟩ := hrel
    by_cases hlt : k < a.length
    · obtain ⟨hll, hvl, hbl⟩ := HL.out
      have hAr := owns_mod hA hm (fun _ _ f => f)
      obtain ⟨ga, rfl, ca⟩ := uvs_cell hAr rfl hlt
      have hfk : a[k] < 1000000000 := HDA.out _ (List.getElem_mem hlt)
      have hk16 : k % 16 < 16 := Nat.mod_lt _ (by omega)
      have r1 := addrow_any W.heap.size w.heap.size n (.slice bo b.length bcap) L b k a[k] _ w.heap.size bbase wr (by rw [hll]; exact hT) (by rw [hll]; exact hO) (owns_mod hB hm (fun _ _ f => f)) (fun g hg e => by have := own_lt hB hg; omega) (by omega) (by rw [hll]; have := HN.out; omega) (by omega) hbl HDB.out hfk (by omega)
      rw [hll] at r1
      have hl2 : (rowTo L k b a[k] b.length).length = n := by rw [rowTo_len]; exact hll
      have hb2 : Bd (rowTo L k b a[k] b.length) (999999999 + (k % 16 + 1) * 999999998000000001) := bd_mono (rowTo_bd hbl HDB.out.bd b.length) (by
        have : 999999999 * a[k] ≤ 999999999 * 999999999 := Nat.mul_le_mul_left _ (by omega)
        rw [Nat.add_mul]
        omega)
      have hv2 : v9 (rowTo L k b a[k] b.length) = v9 (a.take (k + 1)) * v9 b := by
        rw [rowTo_val _ _ _ _ _ (Nat.le_refl _) (by rw [hll]; have := HN.out; omega), hvl, List.take_length, HST.out k hlt]
      have HP2 := HP.out (k + 1)
      rw [← hv2] at HP2
      have HP2 : Hid _ := HP2
      generalize rowTo L k b a[k] b.length = L2 at *
      generalize a[k] = f at *
      have HL2 : Hid (L2.length = n ∧ v9 L2 = v9 (a.take (k + 1)) * v9 b ∧ Bd L2 (999999999 + (k % 16 + 1) * 999999998000000001)) := ⟨hl2, hv2, hb2⟩
      clear hl2 hv2 hb2 hll hvl hbl HL hAr
      go_wp2_with fail
      refine r1.mono ?_
      rintro e W2 ⟨rfl, hm2, hO2⟩
      have hm2' : Mod (fun _ => False) w W2 := ((hm.mono (q := fun q => q = w.heap.size) (fun _ _ f => f.elim)).trans hm2).mono (fun q hq h => by omega)
      have hT2 : Tl W2 W.heap.size (.slice (some ⟨w.heap.size, 0, none⟩) n n) := hT.keep hm2 (by omega)
      clear r1 hO hT hm hm2 ca
      by_cases h15 : k % 16 = 15
      · have hq : (((k : Int) % 16) == 15) = true := by simp; omega
        obtain ⟨hl2, hv2, hb2⟩ := HL2.out
        have r3 := carry_any W.heap.size w.heap.size n L2 _ w.heap.size W2 (by rw [hl2]; exact hT2) (by rw [hl2]; exact hO2) (by omega) (by omega) hb2 (by rw [h15]; omega)
        have hce := car_end (L := L2) hl2.symm (by rw [hl2]; exact HP2.out)
        rw [hl2] at r3
        have hl4 : (carTo L2 n).1.length = n := by rw [carTo_len]; exact hl2
        have HX : Hid ((carTo L2 n).1.length = n ∧ v9 (carTo L2 n).1 = v9 (a.take (k + 1)) * v9 b ∧ Bd (carTo L2 n).1 (999999999 + ((k + 1) % 16) * 999999998000000001)) := ⟨hl4, hce.2.trans hv2, bd_mono hce.1.bd (by omega)⟩
        generalize (carTo L2 n).1 = L4 at *
        clear hl2 hv2 hb2 hce hl4 HL2 HP2 h15
        go_wp2_with fail
        refine r3.mono ?_
        rintro e W4 ⟨rfl, hm4, hO4⟩
        have hm4' : Mod (fun _ => False) w W4 := ((hm2'.mono (q := fun q => q = w.heap.size) (fun _ _ f => f.elim)).trans hm4).mono (fun q hq h => by omega)
        have hT4 : Tl W4 W.heap.size (.slice (some ⟨w.heap.size, 0, none⟩) n n) := hT2.keep hm4 (by omega)
        clear r3 hO2 hT2 hm2' hm4
        go_wp2_with fail
        go_roundw
        case rel => exact ⟨k + 1, L4, by omega, by go_num, HX, hO4, hT4, hm4'⟩
        case measure => simp [intOf]; omega
      · have hq : (((k : Int) % 16) == 15) = false := by simp; omega
        have HX : Hid (L2.length = n ∧ v9 L2 = v9 (a.take (k + 1)) * v9 b ∧ Bd L2 (999999999 + ((k + 1) % 16) * 999999998000000001)) := ⟨HL2.out.1, HL2.out.2.1, by rw [show (k + 1) % 16 = k % 16 + 1 by omega]; exact HL2.out.2.2⟩
        clear HL2 HP2 h15
        go_wp2_with fail
        go_roundw
        case rel => exact ⟨k + 1, L2, by omega, by go_num, HX, hO2, hT2, hm2'⟩
        case measure => simp [intOf]; omega
    · have hks : k = a.length := by omega
      subst hks
      obtain ⟨hll, hvl, hbl⟩ := HL.out
      have hk16 : a.length % 16 < 16 := Nat.mod_lt _ (by omega)
      rw [HTA.out] at hvl
      have hpv := HP.out a.length
      rw [HTA.out, ← hvl] at hpv
      have r3 := carry_any W.heap.size w.heap.size n L _ w.heap.size wr (by rw [hll]; exact hT) (by rw [hll]; exact hO) (by omega) (by omega) hbl (by omega)
      have hce := car_end (L := L) hll.symm (by rw [hll]; exact hpv)
      rw [hll] at r3
      have hl4 : (carTo L n).1.length = n := by rw [carTo_len]; exact hll
      rw [hvl] at hce
      generalize (carTo L n).1 = L4 at *
      have HX : Hid _ := And.intro hce hl4
      clear hll hvl hbl hpv hce hl4 HL
      go_wp2_with fail
      refine r3.mono ?_
      rintro e W4 ⟨rfl, hm4, hO4⟩
      have hm4' : Mod (fun _ => False) w W4 := ((hm.mono (q := fun q => q = w.heap.size) (fun _ _ f => f.elim)).trans hm4).mono (fun q hq h => by omega)
      have hT4 : Tl W4 W.heap.size (.slice (some ⟨w.heap.size, 0, none⟩) n n) := hT.keep hm4 (by omega)
      obtain ⟨⟨hd4, hv4⟩, hl4⟩ := HX.out
      have r4 := done_end hT4 hO4 hl4 (by omega) hd4 hv4 hm4'
      clear hd4 hv4 hl4 HX r3 hO hT hm hm4 hm4' hT4 hO4
      go_wp2_with fail
      refine r4.mono ?_
      rintro e W5 ⟨hm5, v5, l5, rfl, hE⟩
      have HE : Hid _ := hE
      clear hE
      go_wp2_with fail
      go_ret
      exact ⟨hm5, v5, l5, rfl, HE.out⟩
end Go.Proofs.YtmnfndpbblpjiabGreatDoor

/- Limbs: which is less; a difference. -/
namespace Go.Proofs.YtmnfndpbblpjiabGreatDoor.Pu

theorem v9_shorter {a b : List Nat} (ha : D9 a) (hb : T9 b) (h : a.length < b.length) : v9 a < v9 b := by
  have h1 := v9_lt ha
  have h2 := v9_top hb (by intro e; subst e; simp at h)
  have h3 : 1000000000 ^ a.length ≤ 1000000000 ^ (b.length - 1) := Nat.pow_le_pow_right (by omega) (by omega)
  omega
theorem v9_less {a b t : List Nat} {x y : Nat} (ha : D9 a) (hl : a.length = b.length) (hxy : x < y) : v9 (a ++ x :: t) < v9 (b ++ y :: t) := by
  rw [v9_append, v9_append, ← hl]
  have h1 := v9_lt ha
  simp only [v9]
  have h2 : 1000000000 ^ a.length * (x + 1000000000 * v9 t + 1) ≤ 1000000000 ^ a.length * (y + 1000000000 * v9 t) := Nat.mul_le_mul_left _ (by omega)
  rw [Nat.mul_add] at h2
  omega
theorem v9_cmp {a b : List Nat} (k : Nat) (ha : D9 a) (hl : a.length = b.length) (hk : k < a.length) (hlt : a[k] < b[k]'(by omega)) (he : a.drop (k + 1) = b.drop (k + 1)) : v9 a < v9 b := by
  have e1 : a = a.take k ++ a[k] :: a.drop (k + 1) := by rw [← List.drop_eq_getElem_cons hk, List.take_append_drop]
  have e2 : b = b.take k ++ b[k]'(by omega) :: b.drop (k + 1) := by rw [← List.drop_eq_getElem_cons (by omega), List.take_append_drop]
  rw [e1, e2, he]
  exact v9_less (fun d hd => ha d (List.mem_of_mem_take hd)) (by simp; omega) hlt
/-- A difference: the limbs ahead of k, and what is borrowed. -/
def rest (a b : List Nat) (k br : Nat) : Nat := 1000000000 + a[k]?.getD 0 - br - b[k]?.getD 0
def difTo (a b : List Nat) : Nat → List Nat × Nat
  | 0 => (List.replicate a.length 0, 0)
  | k + 1 => ((difTo a b k).1.set k (rest a b k (difTo a b k).2 % 1000000000), 1 - rest a b k (difTo a b k).2 / 1000000000)
theorem difTo_len (a b : List Nat) (k : Nat) : (difTo a b k).1.length = a.length := by
  induction k with
  | zero => simp [difTo]
  | succ k ih => simp [difTo, ih]
theorem difTo_far (a b : List Nat) (k i : Nat) (hi : k ≤ i) : (difTo a b k).1[i]? = (List.replicate a.length 0)[i]? := by
  induction k with
  | zero => rfl
  | succ k ih => simp only [difTo]; rw [List.getElem?_set, if_neg (by omega)]; exact ih (by omega)
theorem difTo_br (a b : List Nat) (k : Nat) : (difTo a b k).2 ≤ 1 := by
  cases k with
  | zero => simp [difTo]
  | succ k => simp only [difTo]; omega
theorem difTo_d9 (a b : List Nat) (k : Nat) : D9 (difTo a b k).1 := by
  induction k with
  | zero => intro d hd; rw [List.eq_of_mem_replicate hd]; omega
  | succ k ih =>
    intro d hd
    simp only [difTo] at hd
    rcases List.mem_or_eq_of_mem_set hd with h | h
    · exact ih d h
    · rw [h]; exact Nat.mod_lt _ (by omega)
theorem getD_lt {b : List Nat} (db : D9 b) (k : Nat) : b[k]?.getD 0 < 1000000000 := by
  cases h : b[k]? with
  | none => simp
  | some y => simpa using db y (List.mem_of_getElem? h)
theorem take_getD (b : List Nat) (k : Nat) : v9 (b.take (k + 1)) = v9 (b.take k) + 1000000000 ^ k * b[k]?.getD 0 := by
  by_cases hk : k < b.length
  · rw [v9_take b k hk]; simp [hk]
  · rw [List.take_of_length_le (by omega), List.take_of_length_le (by omega)]; simp [hk]
theorem difTo_val {a b : List Nat} (da : D9 a) (db : D9 b) (k : Nat) (hk : k ≤ a.length) : v9 (difTo a b k).1 + v9 (b.take k) = v9 (a.take k) + 1000000000 ^ k * (difTo a b k).2 := by
  induction k with
  | zero => simp [difTo, v9_zeros, v9]
  | succ k ih =>
    have ih' := ih (by omega)
    have hl : k < (difTo a b k).1.length := by rw [difTo_len]; omega
    have h0 : (difTo a b k).1[k] = 0 := by
      have h := difTo_far a b k k (Nat.le_refl _)
      rw [List.getElem?_eq_getElem hl, List.getElem?_replicate, if_pos (by omega)] at h
      exact Option.some.inj h
    have hs := v9_set (difTo a b k).1 k (rest a b k (difTo a b k).2 % 1000000000) hl
    rw [h0] at hs
    have hbr := difTo_br a b k
    have h1 := getD_lt db k
    have h2 := getD_lt da k
    rw [take_getD a k, take_getD b k]
    simp only [difTo]
    have hd := Nat.div_add_mod (rest a b k (difTo a b k).2) 1000000000
    have hr : rest a b k (difTo a b k).2 = 1000000000 + a[k]?.getD 0 - (difTo a b k).2 - b[k]?.getD 0 := rfl
    generalize (difTo a b k).2 = br at *
    generalize rest a b k br / 1000000000 = q at *
    generalize rest a b k br % 1000000000 = r at *
    generalize rest a b k br = rs at *
    generalize a[k]?.getD 0 = x at *
    generalize b[k]?.getD 0 = y at *
    have key : r + y + br = x + 1000000000 * (1 - q) := by omega
    have e1 : 1000000000 ^ (k + 1) * (1 - q) = 1000000000 ^ k * (1000000000 * (1 - q)) := by rw [Nat.pow_succ, Nat.mul_assoc]
    rw [e1]
    have e2 : 1000000000 ^ k * r + 1000000000 ^ k * y + 1000000000 ^ k * br = 1000000000 ^ k * x + 1000000000 ^ k * (1000000000 * (1 - q)) := by rw [← Nat.mul_add, ← Nat.mul_add, key, Nat.mul_add]
    omega
theorem dif_end {a b : List Nat} (da : D9 a) (db : D9 b) (hl : b.length ≤ a.length) (h : v9 b ≤ v9 a) : v9 (difTo a b a.length).1 = v9 a - v9 b := by
  have hv := difTo_val da db a.length (Nat.le_refl _)
  rw [List.take_length, List.take_of_length_le hl] at hv
  have hlt := v9_lt (difTo_d9 a b a.length)
  rw [difTo_len] at hlt
  have hb := difTo_br a b a.length
  have : (difTo a b a.length).2 = 0 := by
    refine Nat.eq_zero_of_not_pos fun hp => ?_
    have : (difTo a b a.length).2 = 1 := by omega
    rw [this] at hv
    omega
  rw [this] at hv
  omega
end Go.Proofs.YtmnfndpbblpjiabGreatDoor.Pu

/- The program's less, and its differences of limbs. -/
namespace Go.Proofs.YtmnfndpbblpjiabGreatDoor
open Go.RowKit Pu

set_option maxHeartbeats 800000 in
set_option maxRecDepth 4000 in
theorem less9_any (av bv : Value) (a b : List Nat) (abase bbase : Nat) (w : World) (hA : w.ownsRow abase 188 1 av a.length (uvs a)) (hB : w.ownsRow bbase 188 1 bv b.length (uvs b)) (da : D9 a) (db : D9 b) (ta : T9 a) (tb : T9 b) (la : a.length ≤ 100000) (_lb : b.length ≤ 100000) :
    Calls Tryz.prog 205 #[av, bv] w fun e w' => e = .returned (.bool (decide (v9 a < v9 b))) ∧ Mod (fun _ => False) w w' := by
  obtain ⟨ao, acap, rfl, -⟩ := owns_form hA
  obtain ⟨bo, bcap, rfl, -⟩ := owns_form hB
  by_cases hlen : a.length = b.length
  · have HLen : Hid (a.length = b.length) := hlen
    have hb1 : ((a.length : Int) != (b.length : Int)) = false := by rw [hlen]; simp
    clear hlen
    go_enter Tryz.func205, Tryz.ntmps205
    go_wp2_with fail
    go_loopw [5] (fun i wr => ∃ j : Nat, j ≤ a.length ∧ i = .int .i64 ((j : Int) - 1) ∧ (∃ n, wr = w.drewN n) ∧ Hid (a.drop j = b.drop j)) (fun i _ => (intOf i + 1).toNat)
    case atStart => exact ⟨a.length, by omega, rfl, ⟨0, rfl⟩, show a.drop a.length = b.drop a.length by rw [List.drop_of_length_le (by omega), List.drop_of_length_le (by have := HLen.out; omega)]⟩
    case round =>
      obtain ⟨j, hj, rfl, ⟨n, rfl⟩, HD⟩ := hrel
      cases j with
      | zero =>
        have HR : Hid (decide (v9 a < v9 b) = false) := show _ = false by
          have : a = b := by simpa using HD.out
          rw [this]; simp
        go_wp2_with fail
        go_ret
        exact ⟨by rw [HR.out]; rfl, Mod.same n _ w⟩
      | succ j =>
        have hja : j < a.length := by omega
        have hjb : j < b.length := by have := HLen.out; omega
        have e1 : ((j + 1 : Nat) : Int) - 1 = (j : Int) := by omega
        rw [e1]
        clear e1
        obtain ⟨ga, rfl, ca⟩ := uvs_cell hA rfl hja
        obtain ⟨gb, rfl, cb⟩ := uvs_cell hB rfl hjb
        have i1 : (0 : Int) ≤ (j : Int) := by omega
        have i2 : (j : Int) < (a.length : Int) := by omega
        have i3 : (j : Int) < (b.length : Int) := by omega
        rcases Nat.lt_trichotomy a[j] b[j] with hc | hc | hc
        · have HR : Hid (decide (v9 a < v9 b) = true) := show _ = true by
            have := v9_cmp j da HLen.out hja hc HD.out
            simpa using this
          have q1 : ((a[j] : Int) != (b[j] : Int)) = true := bne_t (by omega)
          have q2 : (a[j] : Int) < (b[j] : Int) := by omega
          clear hc
          go_wp2_with fail
          go_quiet (fail)
          go_wp2_with fail
          go_quiet (fail)
          go_wp2_with fail
          go_ret
          exact ⟨by rw [HR.out]; rfl, by simp only [World.drewN_drewN]; exact Mod.same _ _ w⟩
        · have HE : Hid (a.drop j = b.drop j) := show a.drop j = b.drop j by rw [List.drop_eq_getElem_cons hja, List.drop_eq_getElem_cons hjb, HD.out, hc]
          have q1 : ((a[j] : Int) != (b[j] : Int)) = false := bne_f hc
          clear hc
          go_wp2_with fail
          go_quiet (fail)
          go_wp2_with fail
          go_roundw
          case rel => exact ⟨j, by omega, by go_num, ⟨_, rfl⟩, HE⟩
          case measure => simp [intOf]
        · have HR : Hid (decide (v9 a < v9 b) = decide (a[j] < b[j])) := show _ = _ by
            have := v9_cmp j db HLen.out.symm hjb hc HD.out.symm
            rw [decide_eq_false (by omega), decide_eq_false (by omega)]
          have q1 : ((a[j] : Int) != (b[j] : Int)) = true := bne_t (by omega)
          have q2 : ¬ (a[j] : Int) < (b[j] : Int) := by omega
          clear hc
          go_wp2_with fail
          go_quiet (fail)
          go_wp2_with fail
          go_quiet (fail)
          go_wp2_with fail
          go_ret
          exact ⟨by rw [HR.out]; rfl, by simp only [World.drewN_drewN]; exact Mod.same _ _ w⟩
  · have hb1 : ((a.length : Int) != (b.length : Int)) = true := bne_t hlen
    by_cases hlt : a.length < b.length
    · have HR : Hid (decide (v9 a < v9 b) = true) := show _ = true by simpa using v9_shorter da tb hlt
      have q2 : (a.length : Int) < (b.length : Int) := by omega
      clear hlen
      go_enter Tryz.func205, Tryz.ntmps205
      go_wp2_with fail
      go_ret
      exact ⟨by rw [HR.out]; rfl, Mod.refl _ _⟩
    · have HR : Hid (decide (v9 a < v9 b) = false) := show _ = false by
        have := v9_shorter db ta (by omega)
        simp; omega
      have q2 : ¬ (a.length : Int) < (b.length : Int) := by omega
      clear hlen
      go_enter Tryz.func205, Tryz.ntmps205
      go_wp2_with fail
      go_ret
      exact ⟨by rw [HR.out]; rfl, Mod.refl _ _⟩
end Go.Proofs.YtmnfndpbblpjiabGreatDoor
