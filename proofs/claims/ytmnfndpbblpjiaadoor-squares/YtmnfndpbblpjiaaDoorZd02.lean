/- The program's sums of limbs. -/
import Derived.Deep.WholeRow
import Derived.Test.YtmnfndpbblpjiaaDoorZd01
namespace Go.Proofs.YtmnfndpbblpjiaaDoor
open Go.RowKit Pu

theorem Tryd.infoU : (Tryd.prog.info? 82).map (fun i => (i.zero, i.size, i.bytes)) = some (some (.int .u64 0), 1, 8) := by kernel_rfl
theorem made_u (n : Nat) : (madeCells #[Value.int .u64 0] (n * 1)).toList = uvs (List.replicate n 0) := by rw [toList_madeCells_one]; simp [uvs]
def LimEnd (w : World) (x : Nat) (n : Nat) (e : Ending) (w' : World) : Prop := Mod (fun _ => False) w w' ∧ ∃ v l, e = .returned v ∧ w'.ownsRow w.heap.size 82 1 v l.length (uvs l) ∧ D9 l ∧ T9 l ∧ v9 l = x ∧ l.length ≤ n
theorem rep0_bd (n : Nat) : Bd (List.replicate n 0) 0 := fun x hx => by rw [List.eq_of_mem_replicate hx]; exact Nat.le_refl _
theorem d9_take {l : List Nat} (h : D9 l) (n : Nat) : D9 (l.take n) := fun d hd => h d (List.mem_of_mem_take hd)
theorem tl_new (w : World) (v : Value) : Tl (w.alloc (.cells #[v] 107)) w.heap.size v := heap_alloc_new w _
theorem own_lt {w : World} {base n : Nat} {v : Value} {xs : List Value} (h : w.ownsRow base 82 1 v n xs) {g : Nat} (hg : v.ownBlock = some g) : g < w.heap.size := (h.lt g hg).2

theorem done_end {w W : World} {tb gt n : Nat} {L : List Nat} {x : Nat} (hT : Tl W tb (.slice (some ⟨gt, 0, none⟩) n n)) (hO : W.ownsRow w.heap.size 82 1 (.slice (some ⟨gt, 0, none⟩) n n) n (uvs L)) (hl : L.length = n) (hn : n ≤ 100000) (hd : D9 L) (hv : v9 L = x) (hm : Mod (fun _ => False) w W) :
    Calls Tryd.prog 66 #[.pointer (some ⟨tb, 0, none⟩)] W (LimEnd w x n) := by
  subst hl
  refine (done_any tb gt L.length L w.heap.size W hT hO hn).mono ?_
  rintro e w' ⟨hm', k, ao, rfl, hk, hown, hvk, htk⟩
  have hlen : (L.take k).length = k := by simp; omega
  exact ⟨hm.trans hm', _, L.take k, rfl, by rw [hlen]; exact hown, d9_take hd k, htk, hvk.trans hv, by omega⟩
set_option maxHeartbeats 1600000 in
set_option maxRecDepth 4000 in
theorem total_any (av bv : Value) (a b : List Nat) (abase bbase : Nat) (w : World) (hA : w.ownsRow abase 82 1 av a.length (uvs a)) (hB : w.ownsRow bbase 82 1 bv b.length (uvs b)) (da : D9 a) (db : D9 b) (la : a.length ≤ 50000) (lb : b.length ≤ 50000) :
    Calls Tryd.prog 67 #[av, bv] w (LimEnd w (v9 a + v9 b) (max a.length b.length + 1)) := by
  obtain ⟨i0, hii, hz0, hz1, hz2⟩ := info_parts Tryd.infoU
  obtain ⟨m, hm, hma, hmb⟩ : ∃ m, max a.length b.length = m ∧ a.length ≤ m ∧ b.length ≤ m := ⟨_, rfl, Nat.le_max_left _ _, Nat.le_max_right _ _⟩
  have HMX : Hid (max a.length b.length = m) := hm
  have hml : m ≤ 50000 := by omega
  have hcs : (a.length < b.length ∧ m = b.length) ∨ (¬ a.length < b.length ∧ m = a.length) := by omega
  clear hm
  have HV : Hid (v9 a + v9 b < 1000000000 ^ (m + 1)) := show _ < _ by
    have h1 := v9_lt da
    have h2 := v9_lt db
    have h3 : 1000000000 ^ a.length ≤ 1000000000 ^ m := Nat.pow_le_pow_right (by omega) hma
    have h4 : 1000000000 ^ b.length ≤ 1000000000 ^ m := Nat.pow_le_pow_right (by omega) hmb
    rw [Nat.pow_succ]
    omega
  rw [HMX.out]
  obtain ⟨ao, acap, rfl, -⟩ := owns_form hA
  obtain ⟨bo, bcap, rfl, -⟩ := owns_form hB
  rcases hcs with ⟨hc, hcm⟩ | ⟨hc, hcm⟩
  all_goals
    have HCM : Hid _ := hcm
    clear hcm
    go_enter Tryd.func67, Tryd.ntmps67
    go_wp2_with (at_make; refine wpList_make_full _ rfl _ _ 66 rfl w.heap.size 82 i0 (.int .u64 0) 1 Tryd.underlying66 hii hz0 hz1 _ _ _ _ (m + 1) rfl rfl (by have := HCM.out; omega) (by have := HCM.out; omega) (by rw [hz2]; omega) (by unfold maxLen; omega) (by simp) ?_)
    intro W hown0 hgrow0
    have hm0 := (Mod.refl (fun _ => False) w).grown hgrow0 (fun k hk _ => by cases hk)
    have hown1 : W.ownsRow w.heap.size 82 1 (.slice (some ⟨w.heap.size, 0, none⟩) (m + 1) (m + 1)) (m + 1) (uvs (List.replicate (m + 1) 0)) := by
      rw [← made_u]; simpa using hown0
    clear hgrow0 hown0
    have hwl : w.heap.size < W.heap.size := own_lt hown1 rfl
    have hmA : Mod (fun _ => False) W (W.alloc (.cells #[.slice (some ⟨w.heap.size, 0, none⟩) (m + 1) (m + 1)] 107)) := (Mod.refl _ W).alloc _
    have hT1 := tl_new W (.slice (some ⟨w.heap.size, 0, none⟩) (m + 1) (m + 1))
    have HH : Hid _ := And.intro (owns_mod hown1 hmA (fun _ _ f => f)) (And.intro hT1 (hm0.trans hmA))
    clear hown1 hT1 hmA hm0
    go_wp2_with fail
    generalize W.alloc (.cells #[.slice (some ⟨w.heap.size, 0, none⟩) (m + 1) (m + 1)] 107) = W1 at *
    obtain ⟨hO1, hT1, hm1⟩ := HH.out
    clear HH
    have hrl : (List.replicate (m + 1) 0).length = m + 1 := by simp
    have r1 := addrow_any W.heap.size w.heap.size (m + 1) (.slice ao a.length acap) (List.replicate (m + 1) 0) a 0 1 0 w.heap.size abase W1 (by rw [hrl]; exact hT1) (by rw [hrl]; exact hO1) (owns_mod hA hm1 (fun _ _ f => f)) (fun g hg e => by have := own_lt hA hg; omega) (by omega) (by omega) (by omega) (rep0_bd _) da (by omega) (by omega)
    rw [hrl] at r1
    refine r1.mono ?_
    rintro e W2 ⟨rfl, hm2, hO2⟩
    have hm2' : Mod (fun _ => False) w W2 := ((hm1.mono (q := fun q => q = w.heap.size) (fun _ _ f => f.elim)).trans hm2).mono (fun q hq h => by omega)
    have hT2 : Tl W2 W.heap.size (.slice (some ⟨w.heap.size, 0, none⟩) (m + 1) (m + 1)) := hT1.keep hm2 (by omega)
    have hl2 : (rowTo (List.replicate (m + 1) 0) 0 a 1 a.length).length = m + 1 := by rw [rowTo_len]; exact hrl
    have hb2 : Bd (rowTo (List.replicate (m + 1) 0) 0 a 1 a.length) 999999999 := by simpa using rowTo_bd (a := 0) (f := 1) (rep0_bd (m + 1)) da.bd a.length
    have hv2 : v9 (rowTo (List.replicate (m + 1) 0) 0 a 1 a.length) = v9 a := by rw [rowTo_val _ _ _ _ _ (Nat.le_refl _) (by omega), v9_zeros, List.take_length]; simp
    generalize rowTo (List.replicate (m + 1) 0) 0 a 1 a.length = L2 at *
    clear r1 hO1 hT1 hm1 hm2
    have r2 := addrow_any W.heap.size w.heap.size (m + 1) (.slice bo b.length bcap) L2 b 0 1 999999999 w.heap.size bbase W2 (by rw [hl2]; exact hT2) (by rw [hl2]; exact hO2) (owns_mod hB hm2' (fun _ _ f => f)) (fun g hg e => by have := own_lt hB hg; omega) (by omega) (by omega) (by omega) hb2 db (by omega) (by omega)
    rw [hl2] at r2
    have HL2 : Hid (L2.length = m + 1) := hl2
    have HV2 : Hid (v9 L2 = v9 a) := hv2
    clear hl2 hrl hv2
    go_wp2_with fail
    refine r2.mono ?_
    rintro e W3 ⟨rfl, hm3, hO3⟩
    have hm3' : Mod (fun _ => False) w W3 := ((hm2'.mono (q := fun q => q = w.heap.size) (fun _ _ f => f.elim)).trans hm3).mono (fun q hq h => by omega)
    have hT3 : Tl W3 W.heap.size (.slice (some ⟨w.heap.size, 0, none⟩) (m + 1) (m + 1)) := hT2.keep hm3 (by omega)
    have hl3 : (rowTo L2 0 b 1 b.length).length = m + 1 := by rw [rowTo_len]; exact HL2.out
    have hb3 : Bd (rowTo L2 0 b 1 b.length) 1999999998 := by simpa using rowTo_bd (a := 0) (f := 1) hb2 db.bd b.length
    have hv3 : v9 (rowTo L2 0 b 1 b.length) = v9 a + v9 b := by rw [rowTo_val _ _ _ _ _ (Nat.le_refl _) (by rw [HL2.out]; omega), HV2.out, List.take_length]; simp
    generalize rowTo L2 0 b 1 b.length = L3 at *
    clear r2 hO2 hT2 hm2' hm3 hb2
    have r3 := carry_any W.heap.size w.heap.size (m + 1) L3 1999999998 w.heap.size W3 (by rw [hl3]; exact hT3) (by rw [hl3]; exact hO3) (by omega) (by omega) hb3 (by omega)
    have hce := car_end (L := L3) hl3.symm (by rw [hv3, hl3]; exact HV.out)
    have hl4 : (carTo L3 (m + 1)).1.length = m + 1 := by rw [carTo_len]; exact hl3
    rw [hv3] at hce
    rw [hl3] at r3
    generalize (carTo L3 (m + 1)).1 = L4 at *
    have HX : Hid _ := And.intro hce hl4
    clear hl3 hce hl4 hv3
    go_wp2_with fail
    refine r3.mono ?_
    rintro e W4 ⟨rfl, hm4, hO4⟩
    have hm4' : Mod (fun _ => False) w W4 := ((hm3'.mono (q := fun q => q = w.heap.size) (fun _ _ f => f.elim)).trans hm4).mono (fun q hq h => by omega)
    have hT4 : Tl W4 W.heap.size (.slice (some ⟨w.heap.size, 0, none⟩) (m + 1) (m + 1)) := hT3.keep hm4 (by omega)
    obtain ⟨⟨hd4, hv4⟩, hl4⟩ := HX.out
    have r4 := done_end hT4 hO4 hl4 (by omega) hd4 hv4 hm4'
    clear hd4 hv4 hl4 HX r3 hO3 hT3 hm3' hm4 hm4' hT4 hO4
    go_wp2_with fail
    refine r4.mono ?_
    rintro e W5 ⟨hm5, v5, l5, rfl, hE⟩
    have HE : Hid _ := hE
    clear hE
    go_wp2_with fail
    go_ret
    exact ⟨hm5, v5, l5, rfl, HE.out⟩
end Go.Proofs.YtmnfndpbblpjiaaDoor

/- The program's products of limbs. -/
namespace Go.Proofs.YtmnfndpbblpjiaaDoor
open Go.RowKit Pu

theorem bd_mono {L : List Nat} {M N : Nat} (h : Bd L M) (hn : M ≤ N) : Bd L N := fun x hx => Nat.le_trans (h x hx) hn
theorem take_lt {a : List Nat} (da : D9 a) (k : Nat) : v9 (a.take k) < 1000000000 ^ a.length :=
  Nat.lt_of_lt_of_le (v9_lt (d9_take da k)) (Nat.pow_le_pow_right (by omega) (by simp; omega))
theorem prod_lt {a b : List Nat} (da : D9 a) (db : D9 b) (k : Nat) : v9 (a.take k) * v9 b < 1000000000 ^ (a.length + b.length) := by
  rw [Nat.pow_add]
  exact Nat.mul_lt_mul'' (take_lt da k) (v9_lt db)
theorem prod_step {a b : List Nat} {k : Nat} (hk : k < a.length) : v9 (a.take (k + 1)) * v9 b = v9 (a.take k) * v9 b + 1000000000 ^ k * (a[k] * v9 b) := by
  rw [v9_take a k hk, Nat.add_mul, Nat.mul_assoc]

set_option maxHeartbeats 1600000 in
set_option maxRecDepth 4000 in
theorem product_any (av bv : Value) (a b : List Nat) (abase bbase : Nat) (w : World) (hA : w.ownsRow abase 82 1 av a.length (uvs a)) (hB : w.ownsRow bbase 82 1 bv b.length (uvs b)) (da : D9 a) (db : D9 b) (la : a.length ≤ 40000) (lb : b.length ≤ 40000) :
    Calls Tryd.prog 64 #[av, bv] w (LimEnd w (v9 a * v9 b) (a.length + b.length)) := by
  obtain ⟨i0, hii, hz0, hz1, hz2⟩ := info_parts Tryd.infoU
  obtain ⟨n, hn⟩ : ∃ n, a.length + b.length = n := ⟨_, rfl⟩
  have HN : Hid (a.length + b.length = n) := hn
  have hnl : n ≤ 80000 := by omega
  have hnb : b.length ≤ n := by omega
  clear hn
  have HP : Hid (∀ k, v9 (a.take k) * v9 b < 1000000000 ^ n) := fun k => by rw [← HN.out]; exact prod_lt da db k
  have HST : Hid (∀ (k : Nat) (hk : k < a.length), v9 (a.take (k + 1)) * v9 b = v9 (a.take k) * v9 b + 1000000000 ^ k * (a[k] * v9 b)) := fun k hk => prod_step hk
  have HDA : Hid (D9 a) := da
  have HDB : Hid (D9 b) := db
  have HTA : Hid (v9 (a.take a.length) = v9 a) := show _ = _ by rw [List.take_length]
  clear da db
  rw [HN.out]
  obtain ⟨ao, acap, rfl, -⟩ := owns_form hA
  obtain ⟨bo, bcap, rfl, -⟩ := owns_form hB
  go_enter Tryd.func64, Tryd.ntmps64
  go_wp2_with (at_make; refine wpList_make_full _ rfl _ _ 66 rfl w.heap.size 82 i0 (.int .u64 0) 1 Tryd.underlying66 hii hz0 hz1 _ _ _ _ n rfl rfl (by have := HN.out; omega) (by have := HN.out; omega) (by rw [hz2]; omega) (by unfold maxLen; omega) (by simp) ?_)
  intro W hown0 hgrow0
  have hm0 := (Mod.refl (fun _ => False) w).grown hgrow0 (fun k hk _ => by cases hk)
  have hown1 : W.ownsRow w.heap.size 82 1 (.slice (some ⟨w.heap.size, 0, none⟩) n n) n (uvs (List.replicate n 0)) := by
    rw [← made_u]; simpa using hown0
  clear hgrow0 hown0
  have hwl : w.heap.size < W.heap.size := own_lt hown1 rfl
  have hmA : Mod (fun _ => False) W (W.alloc (.cells #[.slice (some ⟨w.heap.size, 0, none⟩) n n] 107)) := (Mod.refl _ W).alloc _
  have hT1 := tl_new W (.slice (some ⟨w.heap.size, 0, none⟩) n n)
  have HH : Hid _ := And.intro (owns_mod hown1 hmA (fun _ _ f => f)) (And.intro hT1 (hm0.trans hmA))
  clear hown1 hT1 hmA hm0
  go_wp2_with fail
  generalize W.alloc (.cells #[.slice (some ⟨w.heap.size, 0, none⟩) n n] 107) = W1 at *
  go_loopw [16] (fun kv wr => ∃ (k : Nat) (L : List Nat), k ≤ a.length ∧ kv = .int .i64 k ∧ Hid (L.length = n ∧ v9 L = v9 (a.take k) * v9 b ∧ Bd L (999999999 + (k % 16) * 999999998000000001)) ∧ wr.ownsRow w.heap.size 82 1 (.slice (some ⟨w.heap.size, 0, none⟩) n n) n (uvs L) ∧ Tl wr W.heap.size (.slice (some ⟨w.heap.size, 0, none⟩) n n) ∧ Mod (fun _ => False) w wr) (fun kv _ => a.length - (intOf kv).toNat)
  case atStart => exact ⟨0, List.replicate n 0, by omega, rfl, ⟨by simp, by rw [v9_zeros]; simp [v9], bd_mono (rep0_bd n) (by omega)⟩, HH.out.1, HH.out.2.1, HH.out.2.2⟩
  case round =>
    clear HH
    obtain ⟨k, L, hk, rfl, HL, hO, hT, hm⟩ := hrel
    by_cases hlt : k < a.length
    · obtain ⟨hll, hvl, hbl⟩ := HL.out
      have hAr := owns_mod hA hm (fun _ _ f => f)
      obtain ⟨ga, rfl, ca⟩ := uvs_cell hAr rfl hlt
      have hfk : a[k] < 1000000000 := HDA.out _ (List.getElem_mem hlt)
      have hk16 : k % 16 < 16 := Nat.mod_lt _ (by omega)
      have r1 := addrow_any W.heap.size w.heap.size n (.slice bo b.length bcap) L b k a[k] _ w.heap.size bbase wr (by rw [hll]; exact hT) (by rw [hll]; exact hO) (owns_mod hB hm (fun _ _ f => f)) (fun g hg e => by have := own_lt hB hg; omega) (by omega) (by rw [hll]; have := HN.out; omega) (by omega) hbl HDB.out hfk (by omega)
      rw [hll] at r1
      have hl2 : (rowTo L k b a[k] b.length).length = n := by rw [rowTo_len]; exact hll
      have hb2 : Bd (rowTo L k b a[k] b.length) (999999999 + (k % 16 + 1) * 999999998000000001) := bd_mono (rowTo_bd hbl HDB.out.bd b.length) (by
        have : 999999999 * a[k] ≤ 999999999 * 999999999 := Nat.mul_le_mul_left _ (by omega)
        rw [Nat.add_mul]
        omega)
      have hv2 : v9 (rowTo L k b a[k] b.length) = v9 (a.take (k + 1)) * v9 b := by
        rw [rowTo_val _ _ _ _ _ (Nat.le_refl _) (by rw [hll]; have := HN.out; omega), hvl, List.take_length, HST.out k hlt]
      have HP2 := HP.out (k + 1)
      rw [← hv2] at HP2
      have HP2 : Hid _ := HP2
      generalize rowTo L k b a[k] b.length = L2 at *
      generalize a[k] = f at *
      have HL2 : Hid (L2.length = n ∧ v9 L2 = v9 (a.take (k + 1)) * v9 b ∧ Bd L2 (999999999 + (k % 16 + 1) * 999999998000000001)) := ⟨hl2, hv2, hb2⟩
      clear hl2 hv2 hb2 hll hvl hbl HL hAr
      go_wp2_with fail
      refine r1.mono ?_
      rintro e W2 ⟨rfl, hm2, hO2⟩
      have hm2' : Mod (fun _ => False) w W2 := ((hm.mono (q := fun q => q = w.heap.size) (fun _ _ f => f.elim)).trans hm2).mono (fun q hq h => by omega)
      have hT2 : Tl W2 W.heap.size (.slice (some ⟨w.heap.size, 0, none⟩) n n) := hT.keep hm2 (by omega)
      clear r1 hO hT hm hm2 ca
      by_cases h15 : k % 16 = 15
      · have hq : (((k : Int) % 16) == 15) = true := by simp; omega
        obtain ⟨hl2, hv2, hb2⟩ := HL2.out
        have r3 := carry_any W.heap.size w.heap.size n L2 _ w.heap.size W2 (by rw [hl2]; exact hT2) (by rw [hl2]; exact hO2) (by omega) (by omega) hb2 (by rw [h15]; omega)
        have hce := car_end (L := L2) hl2.symm (by rw [hl2]; exact HP2.out)
        rw [hl2] at r3
        have hl4 : (carTo L2 n).1.length = n := by rw [carTo_len]; exact hl2
        have HX : Hid ((carTo L2 n).1.length = n ∧ v9 (carTo L2 n).1 = v9 (a.take (k + 1)) * v9 b ∧ Bd (carTo L2 n).1 (999999999 + ((k + 1) % 16) * 999999998000000001)) := ⟨hl4, hce.2.trans hv2, bd_mono hce.1.bd (by omega)⟩
        generalize (carTo L2 n).1 = L4 at *
        clear hl2 hv2 hb2 hce hl4 HL2 HP2 h15
        go_wp2_with fail
        refine r3.mono ?_
        rintro e W4 ⟨rfl, hm4, hO4⟩
        have hm4' : Mod (fun _ => False) w W4 := ((hm2'.mono (q := fun q => q = w.heap.size) (fun _ _ f => f.elim)).trans hm4).mono (fun q hq h => by omega)
        have hT4 : Tl W4 W.heap.size (.slice (some ⟨w.heap.size, 0, none⟩) n n) := hT2.keep hm4 (by omega)
        clear r3 hO2 hT2 hm2' hm4
        go_wp2_with fail
        go_roundw
        case rel => exact ⟨k + 1, L4, by omega, by go_num, HX, hO4, hT4, hm4'⟩
        case measure => simp [intOf]; omega
      · have hq : (((k : Int) % 16) == 15) = false := by simp; omega
        have HX : Hid (L2.length = n ∧ v9 L2 = v9 (a.take (k + 1)) * v9 b ∧ Bd L2 (999999999 + ((k + 1) % 16) * 999999998000000001)) := ⟨HL2.out.1, HL2.out.2.1, by rw [show (k + 1) % 16 = k % 16 + 1 by omega]; exact HL2.out.2.2⟩
        clear HL2 HP2 h15
        go_wp2_with fail
        go_roundw
        case rel => exact ⟨k + 1, L2, by omega, by go_num, HX, hO2, hT2, hm2'⟩
        case measure => simp [intOf]; omega
    · have hks : k = a.length := by omega
      subst hks
      obtain ⟨hll, hvl, hbl⟩ := HL.out
      have hk16 : a.length % 16 < 16 := Nat.mod_lt _ (by omega)
      rw [HTA.out] at hvl
      have hpv := HP.out a.length
      rw [HTA.out, ← hvl] at hpv
      have r3 := carry_any W.heap.size w.heap.size n L _ w.heap.size wr (by rw [hll]; exact hT) (by rw [hll]; exact hO) (by omega) (by omega) hbl (by omega)
      have hce := car_end (L := L) hll.symm (by rw [hll]; exact hpv)
      rw [hll] at r3
      have hl4 : (carTo L n).1.length = n := by rw [carTo_len]; exact hll
      rw [hvl] at hce
      generalize (carTo L n).1 = L4 at *
      have HX : Hid _ := And.intro hce hl4
      clear hll hvl hbl hpv hce hl4 HL
      go_wp2_with fail
      refine r3.mono ?_
      rintro e W4 ⟨rfl, hm4, hO4⟩
      have hm4' : Mod (fun _ => False) w W4 := ((hm.mono (q := fun q => q = w.heap.size) (fun _ _ f => f.elim)).trans hm4).mono (fun q hq h => by omega)
      have hT4 : Tl W4 W.heap.size (.slice (some ⟨w.heap.size, 0, none⟩) n n) := hT.keep hm4 (by omega)
      obtain ⟨⟨hd4, hv4⟩, hl4⟩ := HX.out
      have r4 := done_end hT4 hO4 hl4 (by omega) hd4 hv4 hm4'
      clear hd4 hv4 hl4 HX r3 hO hT hm hm4 hm4' hT4 hO4
      go_wp2_with fail
      refine r4.mono ?_
      rintro e W5 ⟨hm5, v5, l5, rfl, hE⟩
      have HE : Hid _ := hE
      clear hE
      go_wp2_with fail
      go_ret
      exact ⟨hm5, v5, l5, rfl, HE.out⟩
end Go.Proofs.YtmnfndpbblpjiaaDoor

/- Limbs: which is less; a difference. -/
namespace Go.Proofs.YtmnfndpbblpjiaaDoor.Pu

theorem v9_shorter {a b : List Nat} (ha : D9 a) (hb : T9 b) (h : a.length < b.length) : v9 a < v9 b := by
  have h1 := v9_lt ha
  have h2 := v9_top hb (by intro e; subst e; simp at h)
  have h3 : 1000000000 ^ a.length ≤ 1000000000 ^ (b.length - 1) := Nat.pow_le_pow_right (by omega) (by omega)
  omega
theorem v9_less {a b t : List Nat} {x y : Nat} (ha : D9 a) (hl : a.length = b.length) (hxy : x < y) : v9 (a ++ x :: t) < v9 (b ++ y :: t) := by
  rw [v9_append, v9_append, ← hl]
  have h1 := v9_lt ha
  simp only [v9]
  have h2 : 1000000000 ^ a.length * (x + 1000000000 * v9 t + 1) ≤ 1000000000 ^ a.length * (y + 1000000000 * v9 t) := Nat.mul_le_mul_left _ (by omega)
  rw [Nat.mul_add] at h2
  omega
theorem v9_cmp {a b : List Nat} (k : Nat) (ha : D9 a) (hl : a.length = b.length) (hk : k < a.length) (hlt : a[k] < b[k]'(by omega)) (he : a.drop (k + 1) = b.drop (k + 1)) : v9 a < v9 b := by
  have e1 : a = a.take k ++ a[k] :: a.drop (k + 1) := by rw [← List.drop_eq_getElem_cons hk, List.take_append_drop]
  have e2 : b = b.take k ++ b[k]'(by omega) :: b.drop (k + 1) := by rw [← List.drop_eq_getElem_cons (by omega), List.take_append_drop]
  rw [e1, e2, he]
  exact v9_less (fun d hd => ha d (List.mem_of_mem_take hd)) (by simp; omega) hlt
/-- A difference: the limbs ahead of k, and what is borrowed. -/
def rest (a b : List Nat) (k br : Nat) : Nat := 1000000000 + a[k]?.getD 0 - br - b[k]?.getD 0
def difTo (a b : List Nat) : Nat → List Nat × Nat
  | 0 => (List.replicate a.length 0, 0)
  | k + 1 => ((difTo a b k).1.set k (rest a b k (difTo a b k).2 % 1000000000), 1 - rest a b k (difTo a b k).2 / 1000000000)
theorem difTo_len (a b : List Nat) (k : Nat) : (difTo a b k).1.length = a.length := by
  induction k with
  | zero => simp [difTo]
  | succ k ih => simp [difTo, ih]
theorem difTo_far (a b : List Nat) (k i : Nat) (hi : k ≤ i) : (difTo a b k).1[i]? = (List.replicate a.length 0)[i]? := by
  induction k with
  | zero => rfl
  | succ k ih => simp only [difTo]; rw [List.getElem?_set, if_neg (by omega)]; exact ih (by omega)
theorem difTo_br (a b : List Nat) (k : Nat) : (difTo a b k).2 ≤ 1 := by
  cases k with
  | zero => simp [difTo]
  | succ k => simp only [difTo]; omega
theorem difTo_d9 (a b : List Nat) (k : Nat) : D9 (difTo a b k).1 := by
  induction k with
  | zero => intro d hd; rw [List.eq_of_mem_replicate hd]; omega
  | succ k ih =>
    intro d hd
    simp only [difTo] at hd
    rcases List.mem_or_eq_of_mem_set hd with h | h
    · exact ih d h
    · rw [h]; exact Nat.mod_lt _ (by omega)
theorem getD_lt {b : List Nat} (db : D9 b) (k : Nat) : b[k]?.getD 0 < 1000000000 := by
  cases h : b[k]? with
  | none => simp
  | some y => simpa using db y (List.mem_of_getElem? h)
theorem take_getD (b : List Nat) (k : Nat) : v9 (b.take (k + 1)) = v9 (b.take k) + 1000000000 ^ k * b[k]?.getD 0 := by
  by_cases hk : k < b.length
  · rw [v9_take b k hk]; simp [hk]
  · rw [List.take_of_length_le (by omega), List.take_of_length_le (by omega)]; simp [hk]
theorem difTo_val {a b : List Nat} (da : D9 a) (db : D9 b) (k : Nat) (hk : k ≤ a.length) : v9 (difTo a b k).1 + v9 (b.take k) = v9 (a.take k) + 1000000000 ^ k * (difTo a b k).2 := by
  induction k with
  | zero => simp [difTo, v9_zeros, v9]
  | succ k ih =>
    have ih' := ih (by omega)
    have hl : k < (difTo a b k).1.length := by rw [difTo_len]; omega
    have h0 : (difTo a b k).1[k] = 0 := by
      have h := difTo_far a b k k (Nat.le_refl _)
      rw [List.getElem?_eq_getElem hl, List.getElem?_replicate, if_pos (by omega)] at h
      exact Option.some.inj h
    have hs := v9_set (difTo a b k).1 k (rest a b k (difTo a b k).2 % 1000000000) hl
    rw [h0] at hs
    have hbr := difTo_br a b k
    have h1 := getD_lt db k
    have h2 := getD_lt da k
    rw [take_getD a k, take_getD b k]
    simp only [difTo]
    have hd := Nat.div_add_mod (rest a b k (difTo a b k).2) 1000000000
    have hr : rest a b k (difTo a b k).2 = 1000000000 + a[k]?.getD 0 - (difTo a b k).2 - b[k]?.getD 0 := rfl
    generalize (difTo a b k).2 = br at *
    generalize rest a b k br / 1000000000 = q at *
    generalize rest a b k br % 1000000000 = r at *
    generalize rest a b k br = rs at *
    generalize a[k]?.getD 0 = x at *
    generalize b[k]?.getD 0 = y at *
    have key : r + y + br = x + 1000000000 * (1 - q) := by omega
    have e1 : 1000000000 ^ (k + 1) * (1 - q) = 1000000000 ^ k * (1000000000 * (1 - q)) := by rw [Nat.pow_succ, Nat.mul_assoc]
    rw [e1]
    have e2 : 1000000000 ^ k * r + 1000000000 ^ k * y + 1000000000 ^ k * br = 1000000000 ^ k * x + 1000000000 ^ k * (1000000000 * (1 - q)) := by rw [← Nat.mul_add, ← Nat.mul_add, key, Nat.mul_add]
    omega
theorem dif_end {a b : List Nat} (da : D9 a) (db : D9 b) (hl : b.length ≤ a.length) (h : v9 b ≤ v9 a) : v9 (difTo a b a.length).1 = v9 a - v9 b := by
  have hv := difTo_val da db a.length (Nat.le_refl _)
  rw [List.take_length, List.take_of_length_le hl] at hv
  have hlt := v9_lt (difTo_d9 a b a.length)
  rw [difTo_len] at hlt
  have hb := difTo_br a b a.length
  have : (difTo a b a.length).2 = 0 := by
    refine Nat.eq_zero_of_not_pos fun hp => ?_
    have : (difTo a b a.length).2 = 1 := by omega
    rw [this] at hv
    omega
  rw [this] at hv
  omega
end Go.Proofs.YtmnfndpbblpjiaaDoor.Pu

/- Codes: plain functions: steps, what sets a register, what is right. -/
namespace Go.Proofs.YtmnfndpbblpjiaaDoor.Pu

structure Stp where
  op : Nat
  x : Nat
  y : Nat
  z : Nat
def stepAt (s : ByteArray) (k : Nat) : Stp := ⟨g s (6 + 4 * k), g s (6 + 4 * k + 1), g s (6 + 4 * k + 2), g s (6 + 4 * k + 3)⟩
def nst (s : ByteArray) : Nat := (s.size - 6) / 4
def stepsTo (s : ByteArray) (n : Nat) : List Stp := (List.range n).map (stepAt s)
def steps (s : ByteArray) : List Stp := stepsTo s (nst s)
theorem stepsTo_len (s : ByteArray) (n : Nat) : (stepsTo s n).length = n := by simp [stepsTo]
theorem stepsTo_succ (s : ByteArray) (n : Nat) : stepsTo s (n + 1) = stepsTo s n ++ [stepAt s n] := by simp [stepsTo, List.range_succ]
theorem steps_at (s : ByteArray) (k : Nat) (h : k < (steps s).length) : (steps s)[k] = stepAt s k := by simp [steps, stepsTo]
def Small (t : Stp) : Prop := t.op < 256 ∧ t.x < 256 ∧ t.y < 256 ∧ t.z < 256
theorem stepAt_small (s : ByteArray) (k : Nat) : Small (stepAt s k) := ⟨g_lt s _, g_lt s _, g_lt s _, g_lt s _⟩
theorem steps_small (s : ByteArray) : ∀ t ∈ steps s, Small t := by
  intro t ht
  simp [steps, stepsTo] at ht
  obtain ⟨k, _, rfl⟩ := ht
  exact stepAt_small s k

def begunB (s : ByteArray) : Bool :=
  decide (6 ≤ s.size) && (decide (g s 0 = 82) && decide (g s 1 = 85)) && decide (1 ≤ g s 2) && decide (g s 2 ≤ 128) && decide (g s 3 ≤ 32) && decide (g s 5 * 256 + g s 4 ≤ 2000) && decide (s.size = 6 + 4 * (g s 5 * 256 + g s 4))

/-- The last step ahead of k that sets r. -/
def setterI (l : List Stp) (r : Nat) : Nat → Int
  | 0 => -1
  | k + 1 => match l[k]? with
    | some t => if t.op ≤ 5 ∧ t.x = r then (k : Int) else setterI l r k
    | none => setterI l r k
def readsOf (t : Stp) : List Nat := (if 2 ≤ t.op ∧ t.op ≤ 5 then [t.y] else []) ++ (if 2 ≤ t.op ∧ t.op ≤ 4 then [t.z] else []) ++ (if 6 ≤ t.op then [t.x] else [])
def properB (t : Stp) (regs ins : Nat) : Bool :=
  if 7 < t.op ∨ regs ≤ t.x then false
  else if t.op = 0 ∧ ins ≤ t.y then false
  else if t.op = 6 ∧ t.y ≠ 0 then false
  else if t.op = 7 then decide (t.y < 3) && decide (t.z < 16)
  else decide (t.z = 0) || (decide (2 ≤ t.op) && decide (t.op ≤ 4))
def rightB (l : List Stp) (k : Nat) (t : Stp) (regs ins : Nat) : Bool := properB t regs ins && (readsOf t).all fun r => decide (r < regs) && decide (0 ≤ setterI l r k)

theorem setterI_lt (l : List Stp) (r : Nat) : ∀ k, setterI l r k < k := by
  intro k
  induction k with
  | zero => simp [setterI]
  | succ k ih =>
    simp only [setterI]
    split
    · split
      · omega
      · omega
    · omega
theorem setterI_ge (l : List Stp) (r : Nat) : ∀ k, -1 ≤ setterI l r k := by
  intro k
  induction k with
  | zero => simp [setterI]
  | succ k ih =>
    simp only [setterI]
    split
    · split <;> omega
    · omega
theorem setterI_hit {l : List Stp} {r k : Nat} (hk : k < l.length) (h : l[k].op ≤ 5 ∧ l[k].x = r) : setterI l r (k + 1) = (k : Int) := by simp [setterI, hk, h]
theorem setterI_miss {l : List Stp} {r k : Nat} (hk : k < l.length) (h : ¬ (l[k].op ≤ 5 ∧ l[k].x = r)) : setterI l r (k + 1) = setterI l r k := by
  simp only [setterI, List.getElem?_eq_getElem hk]
  rw [if_neg h]
theorem readsOf_len (t : Stp) : (readsOf t).length ≤ 3 := by
  unfold readsOf; repeat' split
  all_goals simp

/-- What Verify answers of a text that is not too long. -/
def vfy (s : ByteArray) : Nat × Nat :=
  if begunB s = false then (8, 0)
  else match (List.range (nst s)).find? fun k => !rightB (steps s) k (stepAt s k) (g s 2) (g s 3) with
    | some k => (8, 1 + k)
    | none => (0, 0)
theorem vfy_bad {s : ByteArray} (h : begunB s = false) : vfy s = (8, 0) := by simp [vfy, h]
theorem vfy_at {s : ByteArray} {k : Nat} (h : begunB s = true) (hk : k < nst s) (hb : rightB (steps s) k (stepAt s k) (g s 2) (g s 3) = false) (ha : ∀ j, j < k → rightB (steps s) j (stepAt s j) (g s 2) (g s 3) = true) : vfy s = (8, 1 + k) := by
  have : (List.range (nst s)).find? (fun k => !rightB (steps s) k (stepAt s k) (g s 2) (g s 3)) = some k := by
    rw [List.find?_range_eq_some]
    exact ⟨by simp [hb], by simpa using hk, fun j hj => by simp [ha j hj]⟩
  simp [vfy, h, this]
theorem vfy_ok {s : ByteArray} (h : begunB s = true) (ha : ∀ j, j < nst s → rightB (steps s) j (stepAt s j) (g s 2) (g s 3) = true) : vfy s = (0, 0) := by
  have : (List.range (nst s)).find? (fun k => !rightB (steps s) k (stepAt s k) (g s 2) (g s 3)) = none := by
    rw [List.find?_eq_none]
    intro j hj
    simp [ha j (by simpa using hj)]
  simp [vfy, h, this]
theorem nst_of {s : ByteArray} (h : begunB s = true) : 6 ≤ s.size ∧ nst s = g s 5 * 256 + g s 4 ∧ nst s ≤ 2000 ∧ s.size = 6 + 4 * nst s ∧ 1 ≤ g s 2 ∧ g s 2 ≤ 128 ∧ g s 3 ≤ 32 := by
  simp only [begunB, Bool.and_eq_true, decide_eq_true_eq] at h
  unfold nst
  omega

end Go.Proofs.YtmnfndpbblpjiaaDoor.Pu

/- Codes, as the program holds them: what fits, which registers are marked. -/
namespace Go.Proofs.YtmnfndpbblpjiaaDoor.Pu

def rz (op : Nat) : Bool := decide (op = 2) || decide (op = 3) || decide (op = 4)
def ry (op : Nat) : Bool := decide (op = 5) || rz op
def opFit (t : Stp) (ins : Nat) : Bool :=
  if t.op = 0 then decide (t.y < ins) && decide (t.z = 0)
  else if t.op = 1 ∨ t.op = 5 then decide (t.z = 0)
  else if t.op = 2 ∨ t.op = 3 ∨ t.op = 4 then true
  else if t.op = 6 then decide (t.y = 0) && decide (t.z = 0)
  else if t.op = 7 then decide (t.y < 3) && decide (t.z < 16)
  else false
def rdFit (M : Nat → Bool) (t : Stp) : Bool := (decide (t.op ≤ 5) || M t.x) && (!(ry t.op) || M t.y) && (!(rz t.op) || M t.z)
def stFit (M : Nat → Bool) (t : Stp) (regs ins : Nat) : Bool := opFit t ins && decide (t.x < regs) && rdFit M t
/-- Which registers a step ahead of k sets. -/
def Set (l : List Stp) (k : Nat) : Nat → Bool := fun r => decide (0 ≤ setterI l r k)
theorem Set_zero (l : List Stp) : Set l 0 = fun _ => false := by funext r; simp [Set, setterI]
theorem Set_yes {l : List Stp} {k : Nat} (hk : k < l.length) (h : l[k].op ≤ 5) : Set l (k + 1) = fun r => if r = l[k].x then true else Set l k r := by
  funext r
  unfold Set
  by_cases e : r = l[k].x
  · subst e; rw [setterI_hit hk ⟨h, rfl⟩, if_pos rfl]; simp
  · rw [setterI_miss hk (fun h2 => e h2.2.symm), if_neg e]
theorem Set_no {l : List Stp} {k : Nat} (hk : k < l.length) (h : ¬ l[k].op ≤ 5) : Set l (k + 1) = Set l k := by
  funext r
  unfold Set
  rw [setterI_miss hk (fun h2 => h h2.1)]
theorem proper_fit (t : Stp) (regs ins : Nat) : properB t regs ins = (opFit t ins && decide (t.x < regs)) := by
  unfold properB opFit
  rcases t with ⟨op, x, y, z⟩
  by_cases hx : regs ≤ x
  · simp [hx]
  · have hx' : x < regs := by omega
    simp only [hx, hx', or_false, decide_true, Bool.and_true]
    by_cases h7 : 7 < op
    · simp [h7, show ¬ op = 0 by omega, show ¬ op = 1 by omega, show ¬ op = 2 by omega, show ¬ op = 3 by omega, show ¬ op = 4 by omega, show ¬ op = 5 by omega, show ¬ op = 6 by omega, show ¬ op = 7 by omega]
    · have : op = 0 ∨ op = 1 ∨ op = 2 ∨ op = 3 ∨ op = 4 ∨ op = 5 ∨ op = 6 ∨ op = 7 := by omega
      rcases this with rfl | rfl | rfl | rfl | rfl | rfl | rfl | rfl <;> simp
      · by_cases hy : ins ≤ y
        · simp [hy, show ¬ y < ins by omega]
        · simp [hy, show y < ins by omega]
theorem right_fit (l : List Stp) (k : Nat) (t : Stp) (regs ins : Nat) (H : ∀ r, Set l k r = true → r < regs) : rightB l k t regs ins = stFit (Set l k) t regs ins := by
  unfold rightB stFit
  rw [proper_fit]
  cases h : opFit t ins && decide (t.x < regs)
  · rfl
  · simp only [Bool.true_and]
    have h7 : t.op ≤ 7 := by
      refine Nat.le_of_not_lt fun hh => ?_
      simp [opFit, show ¬ t.op = 0 by omega, show ¬ t.op = 1 by omega, show ¬ t.op = 2 by omega, show ¬ t.op = 3 by omega, show ¬ t.op = 4 by omega, show ¬ t.op = 5 by omega, show ¬ t.op = 6 by omega, show ¬ t.op = 7 by omega] at h
    have hm : ∀ r, (decide (r < regs) && decide (0 ≤ setterI l r k)) = Set l k r := fun r => by
      have := H r
      unfold Set at *
      by_cases e : 0 ≤ setterI l r k
      · simp [e, this (by simp [e])]
      · simp [e]
    simp only [hm]
    unfold readsOf rdFit ry rz
    have : t.op = 0 ∨ t.op = 1 ∨ t.op = 2 ∨ t.op = 3 ∨ t.op = 4 ∨ t.op = 5 ∨ t.op = 6 ∨ t.op = 7 := by omega
    rcases this with e | e | e | e | e | e | e | e <;> simp [e]
/-- What is set is below REGS, as long as all steps are right. -/
theorem Set_below {l : List Stp} {k regs ins : Nat} (hk : k ≤ l.length) (h : ∀ j (hj : j < k), rightB l j (l[j]'(by omega)) regs ins = true) : ∀ r, Set l k r = true → r < regs := by
  induction k with
  | zero => intro r hr; simp [Set_zero] at hr
  | succ k ih =>
    intro r hr
    have hkl : k < l.length := by omega
    by_cases h5 : l[k].op ≤ 5
    · rw [Set_yes hkl h5] at hr
      by_cases e : r = l[k].x
      · have := h k (by omega)
        unfold rightB at this
        rw [proper_fit] at this
        simp at this
        omega
      · simp only [if_neg e] at hr
        exact ih (by omega) (fun j hj => h j (by omega)) r hr
    · rw [Set_no hkl h5] at hr
      exact ih (by omega) (fun j hj => h j (by omega)) r hr
end Go.Proofs.YtmnfndpbblpjiaaDoor.Pu

/- The program's steps: what fits. -/
namespace Go.Proofs.YtmnfndpbblpjiaaDoor
open Go.RowKit Pu

def stA (t : Stp) : Array Value := #[.int .u8 t.op, .int .u8 t.x, .int .u8 t.y, .int .u8 t.z]
abbrev stV (t : Stp) : Value := .agg #[.int .u8 t.op, .int .u8 t.x, .int .u8 t.y, .int .u8 t.z]

theorem setsx_any (op : Nat) (w : World) (h : op < 256) : Calls Tryd.prog 23 #[.int .u8 op] w fun e w' => e = .returned (.bool (decide (op ≤ 5))) ∧ w = w' := by
  by_cases h5 : op ≤ 5
  · have : (op : Int) ≤ 5 := by omega
    go_enter Tryd.func23, Tryd.ntmps23
    go_wp2_with fail
    go_ret
    exact ⟨by simp [h5], rfl⟩
  · have : ¬ (op : Int) ≤ 5 := by omega
    go_enter Tryd.func23, Tryd.ntmps23
    go_wp2_with fail
    go_ret
    exact ⟨by simp, rfl⟩
theorem readsz_any (op : Nat) (w : World) (_h : op < 256) : Calls Tryd.prog 36 #[.int .u8 op] w fun e w' => e = .returned (.bool (rz op)) ∧ w = w' := by
  cases e2 : decide (op = 2) <;> cases e3 : decide (op = 3) <;> cases e4 : decide (op = 4)
  all_goals
    have HZ : Hid (rz op = (decide (op = 2) || decide (op = 3) || decide (op = 4))) := rfl
    rw [e2, e3, e4] at HZ
    simp only [decide_eq_true_eq, decide_eq_false_iff_not] at e2 e3 e4
    first
      | omega
      | (have b2 : ((op : Int) == 2) = true := beq_t e2
         clear e2 e3 e4
         go_enter Tryd.func36, Tryd.ntmps36
         go_wp2_with fail
         go_ret
         exact ⟨by rw [HZ.out]; rfl, rfl⟩)
      | (have b2 : ((op : Int) == 2) = false := beq_f e2
         have b3 : ((op : Int) == 3) = true := beq_t e3
         clear e2 e3 e4
         go_enter Tryd.func36, Tryd.ntmps36
         go_wp2_with fail
         go_ret
         exact ⟨by rw [HZ.out]; rfl, rfl⟩)
      | (have b2 : ((op : Int) == 2) = false := beq_f e2
         have b3 : ((op : Int) == 3) = false := beq_f e3
         have b4 : ((op : Int) == 4) = true := beq_t e4
         clear e2 e3 e4
         go_enter Tryd.func36, Tryd.ntmps36
         go_wp2_with fail
         go_ret
         exact ⟨by rw [HZ.out]; rfl, rfl⟩)
      | (have b2 : ((op : Int) == 2) = false := beq_f e2
         have b3 : ((op : Int) == 3) = false := beq_f e3
         have b4 : ((op : Int) == 4) = false := beq_f e4
         clear e2 e3 e4
         go_enter Tryd.func36, Tryd.ntmps36
         go_wp2_with fail
         go_ret
         exact ⟨by rw [HZ.out]; rfl, rfl⟩)
theorem readsy_any (op : Nat) (w : World) (h : op < 256) : Calls Tryd.prog 35 #[.int .u8 op] w fun e w' => e = .returned (.bool (ry op)) ∧ w = w' := by
  by_cases e5 : op = 5
  · have HZ : Hid (ry op = true) := show ry op = true by simp [ry, e5]
    have b5 : ((op : Int) == 5) = true := beq_t e5
    clear e5
    go_enter Tryd.func35, Tryd.ntmps35
    go_wp2_with fail
    go_ret
    exact ⟨by rw [HZ.out]; rfl, rfl⟩
  · have HZ : Hid (ry op = rz op) := show ry op = rz op by simp [ry, e5]
    have b5 : ((op : Int) == 5) = false := beq_f e5
    clear e5
    go_enter Tryd.func35, Tryd.ntmps35
    go_wp2_with (go_at_call 36; refine (readsz_any op _ h).mono ?_; rintro e w1 ⟨rfl, rfl⟩)
    go_ret
    exact ⟨by rw [HZ.out]; rfl, rfl⟩
end Go.Proofs.YtmnfndpbblpjiaaDoor

/- The program's operandsFit. -/
namespace Go.Proofs.YtmnfndpbblpjiaaDoor
open Go.RowKit Pu

set_option maxHeartbeats 800000 in
theorem opfit_any (t : Stp) (ins : Nat) (w : World) (ht : Small t) (_hi : ins < 256) : Calls Tryd.prog 28 #[stV t, .int .u8 ins] w fun e w' => e = .returned (.bool (opFit t ins)) ∧ Mod (fun _ => False) w w' := by
  obtain ⟨op, x, y, z⟩ := t
  obtain ⟨h1, h2, h3, h4⟩ := ht
  simp only at h1 h2 h3 h4
  by_cases h7 : 7 < op
  · have HZ : Hid (opFit ⟨op, x, y, z⟩ ins = false) := show _ = false by
      simp [opFit, show ¬ op = 0 by omega, show ¬ op = 1 by omega, show ¬ op = 2 by omega, show ¬ op = 3 by omega, show ¬ op = 4 by omega, show ¬ op = 5 by omega, show ¬ op = 6 by omega, show ¬ op = 7 by omega]
    have b0 : ((op : Int) == 0) = false := beq_f (m := 0) (by omega)
    have b1 : ((op : Int) == 1) = false := beq_f (m := 1) (by omega)
    have b2 : ((op : Int) == 2) = false := beq_f (m := 2) (by omega)
    have b3 : ((op : Int) == 3) = false := beq_f (m := 3) (by omega)
    have b4 : ((op : Int) == 4) = false := beq_f (m := 4) (by omega)
    have b5 : ((op : Int) == 5) = false := beq_f (m := 5) (by omega)
    have b6 : ((op : Int) == 6) = false := beq_f (m := 6) (by omega)
    have b7 : ((op : Int) == 7) = false := beq_f (m := 7) (by omega)
    go_enter Tryd.func28, Tryd.ntmps28
    go_wp2_with fail
    go_ret
    exact ⟨by rw [HZ.out]; rfl, (Mod.refl _ _).alloc _⟩
  · have hop : op = 0 ∨ op = 1 ∨ op = 2 ∨ op = 3 ∨ op = 4 ∨ op = 5 ∨ op = 6 ∨ op = 7 := by omega
    clear h7 h1
    rcases hop with rfl | rfl | rfl | rfl | rfl | rfl | rfl | rfl
    · by_cases ha : y < ins
      · have ia : (y : Int) < (ins : Int) := by omega
        by_cases hb : z = 0
        · have ib : ((z : Int) == 0) = true := beq_t (m := 0) hb
          have HZ : Hid (opFit ⟨0, x, y, z⟩ ins = true) := show opFit ⟨0, x, y, z⟩ ins = true by simp [opFit, ha, hb]
          clear ha hb
          go_enter Tryd.func28, Tryd.ntmps28
          go_wp2_with fail
          go_ret
          exact ⟨by rw [HZ.out]; rfl, (Mod.refl _ _).alloc _⟩
        · have ib : ((z : Int) == 0) = false := beq_f (m := 0) hb
          have HZ : Hid (opFit ⟨0, x, y, z⟩ ins = false) := show opFit ⟨0, x, y, z⟩ ins = false by simp [opFit, hb]
          clear hb
          go_enter Tryd.func28, Tryd.ntmps28
          go_wp2_with fail
          go_ret
          exact ⟨by rw [HZ.out]; rfl, (Mod.refl _ _).alloc _⟩
      · have ia : ¬ (y : Int) < (ins : Int) := by omega
        have HZ : Hid (opFit ⟨0, x, y, z⟩ ins = false) := show opFit ⟨0, x, y, z⟩ ins = false by simp [opFit, ha]
        clear ha
        go_enter Tryd.func28, Tryd.ntmps28
        go_wp2_with fail
        go_ret
        exact ⟨by rw [HZ.out]; rfl, (Mod.refl _ _).alloc _⟩
    · by_cases hb : z = 0
      · have ib : ((z : Int) == 0) = true := beq_t (m := 0) hb
        have HZ : Hid (opFit ⟨1, x, y, z⟩ ins = true) := show opFit ⟨1, x, y, z⟩ ins = true by simp [opFit, hb]
        clear hb
        go_enter Tryd.func28, Tryd.ntmps28
        go_wp2_with fail
        go_ret
        exact ⟨by rw [HZ.out]; rfl, (Mod.refl _ _).alloc _⟩
      · have ib : ((z : Int) == 0) = false := beq_f (m := 0) hb
        have HZ : Hid (opFit ⟨1, x, y, z⟩ ins = false) := show opFit ⟨1, x, y, z⟩ ins = false by simp [opFit, hb]
        clear hb
        go_enter Tryd.func28, Tryd.ntmps28
        go_wp2_with fail
        go_ret
        exact ⟨by rw [HZ.out]; rfl, (Mod.refl _ _).alloc _⟩
    · have HZ : Hid (opFit ⟨2, x, y, z⟩ ins = true) := show opFit ⟨2, x, y, z⟩ ins = true by simp [opFit]
      go_enter Tryd.func28, Tryd.ntmps28
      go_wp2_with fail
      go_ret
      exact ⟨by rw [HZ.out]; rfl, (Mod.refl _ _).alloc _⟩
    · have HZ : Hid (opFit ⟨3, x, y, z⟩ ins = true) := show opFit ⟨3, x, y, z⟩ ins = true by simp [opFit]
      go_enter Tryd.func28, Tryd.ntmps28
      go_wp2_with fail
      go_ret
      exact ⟨by rw [HZ.out]; rfl, (Mod.refl _ _).alloc _⟩
    · have HZ : Hid (opFit ⟨4, x, y, z⟩ ins = true) := show opFit ⟨4, x, y, z⟩ ins = true by simp [opFit]
      go_enter Tryd.func28, Tryd.ntmps28
      go_wp2_with fail
      go_ret
      exact ⟨by rw [HZ.out]; rfl, (Mod.refl _ _).alloc _⟩
    · by_cases hb : z = 0
      · have ib : ((z : Int) == 0) = true := beq_t (m := 0) hb
        have HZ : Hid (opFit ⟨5, x, y, z⟩ ins = true) := show opFit ⟨5, x, y, z⟩ ins = true by simp [opFit, hb]
        clear hb
        go_enter Tryd.func28, Tryd.ntmps28
        go_wp2_with fail
        go_ret
        exact ⟨by rw [HZ.out]; rfl, (Mod.refl _ _).alloc _⟩
      · have ib : ((z : Int) == 0) = false := beq_f (m := 0) hb
        have HZ : Hid (opFit ⟨5, x, y, z⟩ ins = false) := show opFit ⟨5, x, y, z⟩ ins = false by simp [opFit, hb]
        clear hb
        go_enter Tryd.func28, Tryd.ntmps28
        go_wp2_with fail
        go_ret
        exact ⟨by rw [HZ.out]; rfl, (Mod.refl _ _).alloc _⟩
    · by_cases ha : y = 0
      · have ia : ((y : Int) == 0) = true := beq_t (m := 0) ha
        by_cases hb : z = 0
        · have ib : ((z : Int) == 0) = true := beq_t (m := 0) hb
          have HZ : Hid (opFit ⟨6, x, y, z⟩ ins = true) := show opFit ⟨6, x, y, z⟩ ins = true by simp [opFit, ha, hb]
          clear ha hb
          go_enter Tryd.func28, Tryd.ntmps28
          go_wp2_with fail
          go_ret
          exact ⟨by rw [HZ.out]; rfl, (Mod.refl _ _).alloc _⟩
        · have ib : ((z : Int) == 0) = false := beq_f (m := 0) hb
          have HZ : Hid (opFit ⟨6, x, y, z⟩ ins = false) := show opFit ⟨6, x, y, z⟩ ins = false by simp [opFit, hb]
          clear hb
          go_enter Tryd.func28, Tryd.ntmps28
          go_wp2_with fail
          go_ret
          exact ⟨by rw [HZ.out]; rfl, (Mod.refl _ _).alloc _⟩
      · have ia : ((y : Int) == 0) = false := beq_f (m := 0) ha
        have HZ : Hid (opFit ⟨6, x, y, z⟩ ins = false) := show opFit ⟨6, x, y, z⟩ ins = false by simp [opFit, ha]
        clear ha
        go_enter Tryd.func28, Tryd.ntmps28
        go_wp2_with fail
        go_ret
        exact ⟨by rw [HZ.out]; rfl, (Mod.refl _ _).alloc _⟩
    · by_cases ha : y < 3
      · have ia : (y : Int) < 3 := by omega
        by_cases hb : z < 16
        · have ib : (z : Int) < 16 := by omega
          have HZ : Hid (opFit ⟨7, x, y, z⟩ ins = true) := show opFit ⟨7, x, y, z⟩ ins = true by simp [opFit, ha, hb]
          clear ha hb
          go_enter Tryd.func28, Tryd.ntmps28
          go_wp2_with fail
          go_ret
          exact ⟨by rw [HZ.out]; rfl, (Mod.refl _ _).alloc _⟩
        · have ib : ¬ (z : Int) < 16 := by omega
          have HZ : Hid (opFit ⟨7, x, y, z⟩ ins = false) := show opFit ⟨7, x, y, z⟩ ins = false by simp [opFit, hb]
          clear hb
          go_enter Tryd.func28, Tryd.ntmps28
          go_wp2_with fail
          go_ret
          exact ⟨by rw [HZ.out]; rfl, (Mod.refl _ _).alloc _⟩
      · have ia : ¬ (y : Int) < 3 := by omega
        have HZ : Hid (opFit ⟨7, x, y, z⟩ ins = false) := show opFit ⟨7, x, y, z⟩ ins = false by simp [opFit, ha]
        clear ha
        go_enter Tryd.func28, Tryd.ntmps28
        go_wp2_with fail
        go_ret
        exact ⟨by rw [HZ.out]; rfl, (Mod.refl _ _).alloc _⟩
end Go.Proofs.YtmnfndpbblpjiaaDoor
