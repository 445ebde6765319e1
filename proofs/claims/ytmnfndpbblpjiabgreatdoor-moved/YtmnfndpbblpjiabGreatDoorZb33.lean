/- Needs and Weight, on both sides. -/
import Derived.Test.YtmnfndpbblpjiabGreatDoorZb22
import Derived.Test.YtmnfndpbblpjiabGreatDoorZb19
import Derived.Test.YtmnfndpbblpjiabGreatDoorZb29
import Derived.Test.YtmnfndpbblpjiabGreatDoorZb31
import Derived.Test.YtmnfndpbblpjiabGreatDoorZb32
import Derived.Test.YtmnfndpbblpjiabGreatDoorZb05
namespace Go.Proofs.YtmnfndpbblpjiabGreatDoor
open Go.RowKit Pu

def ptR (x : St) : Nat := if (x.name != 0 && x.word == [112, 116]) = true then 2 else 0
def ptP (x : St) : Nat := if (x.word == [112, 116]) = true then 2 else 0
def ndR (l : List St) : Nat := (l.map ptR).sum
def ndP (l : List St) : Nat := (l.map ptP).sum
theorem ndR_snoc (l : List St) (x : St) : ndR (l ++ [x]) = ndR l + ptR x := by simp [ndR]
theorem ndP_snoc (l : List St) (x : St) : ndP (l ++ [x]) = ndP l + ptP x := by simp [ndP]
theorem ndR_le (l : List St) : ndR l ≤ 2 * l.length := by
  induction l with
  | nil => simp [ndR]
  | cons x l ih =>
    simp only [ndR, List.map_cons, List.sum_cons, List.length_cons] at *
    have : ptR x ≤ 2 := by unfold ptR; split <;> omega
    omega
theorem ndP_le (l : List St) : ndP l ≤ 2 * l.length := by
  induction l with
  | nil => simp [ndP]
  | cons x l ih =>
    simp only [ndP, List.map_cons, List.sum_cons, List.length_cons] at *
    have : ptP x ≤ 2 := by unfold ptP; split <;> omega
    omega
theorem nd_same {p : List (St × Nat)} (h : Ok p) : ndP (sts p) = ndR (sts p) := by
  unfold ndP ndR
  congr 1
  refine List.map_congr_left fun x hx => ?_
  obtain ⟨j, hj, rfl⟩ := List.getElem_of_mem hx
  have hj' : j < p.length := by simpa [sts] using hj
  have hk := (err_zero (h j hj').1).1
  have he : (sts p)[j] = p[j].1 := by simp [sts]
  rw [he]
  unfold ptP ptR
  by_cases hw : (p[j].1.word == [112, 116]) = true
  · have hw' : p[j].1.word = [112, 116] := by simpa using hw
    have hn : p[j].1.name ≠ 0 := by
      intro h0
      unfold known at hk
      rw [hw', h0] at hk
      revert hk; decide
    simp [hw', hn]
  · simp [hw]

theorem Ans.zero {s : ByteArray} {b : Nat} (h : Ans s 0 b) : Whole s ∧ b = 0 ∧ ∃ p, Ok p ∧ sts p = (gaA s s.size).l := by
  rcases h with ⟨_, h⟩ | ⟨_, p, hk, _, _, he, h⟩ | ⟨hw, _, hb, p, hok, hp⟩
  · omega
  · exact absurd h.symm he
  · exact ⟨hw, hb, p, hok, hp⟩

def NdA (s : ByteArray) (n a : Nat) : Prop := ∃ b, Ans s a b ∧ ((a ≠ 0 ∧ n = 0) ∨ (a = 0 ∧ n = ndR (gaA s s.size).l))
theorem NdA.unique {s : ByteArray} {n a m c : Nat} (h : NdA s n a) (k : NdA s m c) : n = m ∧ a = c := by
  obtain ⟨b, hA, h⟩ := h
  obtain ⟨d, kA, k⟩ := k
  obtain ⟨rfl, rfl⟩ := hA.unique kA
  refine ⟨?_, rfl⟩
  rcases h with h | h <;> rcases k with k | k <;> first | omega | exact absurd k.1 h.1 | exact absurd h.1 k.1
def WtA (s : ByteArray) (i : Int) (n a : Nat) : Prop := ∃ c b, Ans s c b ∧ ((c ≠ 0 ∧ n = 0 ∧ a = c) ∨ (c = 0 ∧ (i < 0 ∨ ((gaA s s.size).l.length : Int) ≤ i) ∧ n = 0 ∧ a = 4) ∨
  (c = 0 ∧ a = 0 ∧ ∃ (j : Nat) (p : List (St × Nat)) (hj : j < p.length), i = (j : Int) ∧ Ok p ∧ sts p = (gaA s s.size).l ∧ n = p[j].2))
theorem WtA.unique {s : ByteArray} {i : Int} {n a m c : Nat} (h : WtA s i n a) (k : WtA s i m c) : n = m ∧ a = c := by
  obtain ⟨x, b, hA, h⟩ := h
  obtain ⟨y, d, kA, k⟩ := k
  obtain ⟨rfl, rfl⟩ := hA.unique kA
  have len : ∀ {p : List (St × Nat)}, sts p = (gaA s s.size).l → p.length = (gaA s s.size).l.length := fun {p} hp => by have := congrArg List.length hp; simpa [sts] using this
  rcases h with ⟨h0, rfl, rfl⟩ | ⟨h0, hi, rfl, rfl⟩ | ⟨h0, rfl, j, p, hj, rfl, hok, hp, rfl⟩ <;> rcases k with ⟨k0, rfl, rfl⟩ | ⟨k0, ki, rfl, rfl⟩ | ⟨k0, rfl, j', p', hj', hji, hok', hp', rfl⟩
  · exact ⟨rfl, rfl⟩
  · exact absurd k0 h0
  · exact absurd k0 h0
  · exact absurd h0 k0
  · exact ⟨rfl, rfl⟩
  · have := len hp'; omega
  · exact absurd h0 k0
  · have := len hp; omega
  · have hjj : j = j' := by omega
    subst hjj
    have e1 := len hp
    have e2 := len hp'
    have := Ok.unique hok hok' p.length (Nat.le_refl _) (by omega) (by rw [hp, hp'])
    rw [List.take_length, List.take_of_length_le (by omega)] at this
    subst this
    exact ⟨rfl, rfl⟩

set_option maxHeartbeats 400000 in
theorem needs_long (s : ByteArray) (w : World) (hs : 300 < s.size) (hm : s.size ≤ maxLen) : Calls Tryz.prog 28 #[.string s] w fun e w' => e = .returned (.tuple #[.int .i64 0, .int .i64 1]) ∧ w = w' := by
  go_enter Tryz.func28, Tryz.ntmps28
  go_wp2_with fail
  refine (und_long s w hs hm).mono ?_
  rintro e w2 ⟨rfl, rfl⟩
  go_wp2_with fail
  go_ret2
  exact ⟨rfl, rfl⟩
set_option maxHeartbeats 400000 in
theorem weight_long (s : ByteArray) (i : Int) (w : World) (hs : 300 < s.size) (hm : s.size ≤ maxLen) : Calls Tryz.prog 62 #[.string s, .int .i64 i] w fun e w' => e = .returned (.tuple #[.int .i64 0, .int .i64 1]) ∧ w = w' := by
  go_enter Tryz.func62, Tryz.ntmps62
  go_wp2_with fail
  refine (und_long s w hs hm).mono ?_
  rintro e w2 ⟨rfl, rfl⟩
  go_wp2_with fail
  go_ret2
  exact ⟨rfl, rfl⟩
set_option maxHeartbeats 800000 in
set_option maxRecDepth 100000 in
theorem needs_any (s : ByteArray) (w : World) (hs : s.size ≤ 300) : Calls Tryz.prog 28 #[.string s] w fun e w' => (∃ n a : Nat, NdA s n a ∧ e = .returned (.tuple #[.int .i64 n, .int .i64 a])) ∧ Mod (fun _ => False) w w' := by
  go_enter Tryz.func28, Tryz.ntmps28
  go_wp2_with fail
  refine (und_any s w hs).mono ?_
  rintro e w2 ⟨hm, ⟨k, hst, rfl⟩ | ⟨hw, p, k, hk, hok, hp, he, rfl⟩ | ⟨hw, v, q, hok, hq, hL, hle, rfl⟩⟩
  · go_wp2_with fail
    go_ret2
    exact ⟨⟨0, 2, ⟨k, .inl ⟨hst, rfl⟩, .inl ⟨by omega, rfl⟩⟩, rfl⟩, hm⟩
  · have HA : Hid (NdA s 0 (err p (gaA s s.size).l[k])) := ⟨k, .inr (.inl ⟨hw, p, hk, hok, hp, he, rfl⟩), .inl ⟨he, rfl⟩⟩
    generalize err p (gaA s s.size).l[k] = er at *
    clear hp
    have hb : ((er : Int) != 0) = true := by rw [bne_iff_ne]; omega
    go_wp2_with fail
    go_ret2
    exact ⟨⟨0, er, HA.out, rfl⟩, hm⟩
  · have HA : Hid (NdA s (ndP (q.map It.x)) 0) := ⟨0, .inr (.inr ⟨hw, rfl, rfl, pq q, hok, by rw [sts_pq]; exact hq⟩), .inr ⟨rfl, by rw [← hq, ← sts_pq, nd_same hok]⟩⟩
    clear hq
    obtain ⟨ao, cap, rfl, -⟩ := hL.form
    go_wp2_with fail
    go_loop [7, 20] (fun a i => ∃ k : Nat, k ≤ q.length ∧ i = .int .i64 k ∧ a = .int .i64 (ndP ((q.map It.x).take k))) (fun _ i => q.length - (intOf i).toNat)
    case atStart => exact ⟨0, by omega, rfl, rfl⟩
    case round =>
      obtain ⟨k, hk, rfl, rfl⟩ := hrel
      have b1 := ndP_le ((q.map It.x).take k)
      have b2 : ((q.map It.x).take k).length ≤ k := List.length_take_le _ _
      by_cases hlt : k < q.length
      · have HT : Hid ((q.map It.x).take (k + 1) = (q.map It.x).take k ++ [q[k].x]) := show (q.map It.x).take (k + 1) = (q.map It.x).take k ++ [q[k].x] by rw [take_snoc' _ _ (by simpa using hlt)]; simp
        obtain ⟨gb, rfl, -, c1, -⟩ := hL.cell hlt
        cases hpt : (q[k].x.word == [112, 116]) with
        | true =>
          have HP : Hid (ptP q[k].x = 2) := show ptP q[k].x = 2 by simp [ptP, hpt]
          go_wp2_with fail
          go_round
          case rel => exact ⟨k + 1, by omega, by go_num, by rw [HT.out, ndP_snoc, HP.out]; go_num⟩
          case measure => simp [intOf]; omega
        | false =>
          have HP : Hid (ptP q[k].x = 0) := show ptP q[k].x = 0 by simp [ptP, hpt]
          go_wp2_with fail
          go_round
          case rel => exact ⟨k + 1, by omega, by go_num, by rw [HT.out, ndP_snoc, HP.out]; rfl⟩
          case measure => simp [intOf]; omega
      · have HT : Hid ((q.map It.x).take k = q.map It.x) := show (q.map It.x).take k = q.map It.x by rw [List.take_of_length_le (by simp; omega)]
        go_wp2_with fail
        go_ret2
        exact ⟨⟨ndP (q.map It.x), 0, HA.out, by rw [HT.out]; rfl⟩, hm⟩

set_option maxHeartbeats 800000 in
set_option maxRecDepth 100000 in
theorem weightc_any (s : ByteArray) (i : Int) (w : World) (hs : s.size ≤ 300) : Calls Tryz.prog 62 #[.string s, .int .i64 i] w fun e w' => (∃ n a : Nat, WtA s i n a ∧ e = .returned (.tuple #[.int .i64 n, .int .i64 a])) ∧ Mod (fun _ => False) w w' := by
  go_enter Tryz.func62, Tryz.ntmps62
  go_wp2_with fail
  refine (und_any s w hs).mono ?_
  rintro e w2 ⟨hm, ⟨k, hst, rfl⟩ | ⟨hw, p, k, hk, hok, hp, he, rfl⟩ | ⟨hw, v, q, hok, hq, hL, hle, rfl⟩⟩
  · go_wp2_with fail
    go_ret2
    exact ⟨⟨0, 2, ⟨2, k, .inl ⟨hst, rfl⟩, .inl ⟨by omega, rfl, rfl⟩⟩, rfl⟩, hm⟩
  · have HA : Hid (WtA s i 0 (err p (gaA s s.size).l[k])) := ⟨_, k, .inr (.inl ⟨hw, p, hk, hok, hp, he, rfl⟩), .inl ⟨he, rfl, rfl⟩⟩
    generalize err p (gaA s s.size).l[k] = er at *
    clear hp
    have hb : ((er : Int) != 0) = true := by rw [bne_iff_ne]; omega
    go_wp2_with fail
    go_ret2
    exact ⟨⟨0, er, HA.out, rfl⟩, hm⟩
  · have hA : Ans s 0 0 := .inr (.inr ⟨hw, rfl, rfl, pq q, hok, by rw [sts_pq]; exact hq⟩)
    have hlq : (gaA s s.size).l.length = q.length := by rw [← hq]; simp
    have HN : Hid (i < 0 ∨ (q.length : Int) ≤ i → WtA s i 0 4) := fun h => ⟨0, 0, hA, .inr (.inl ⟨rfl, by rw [hlq]; exact h, rfl, rfl⟩)⟩
    have HY : Hid (∀ (j : Nat) (hj : j < q.length), i = (j : Int) → WtA s i q[j].wt 0) := fun j hj hi => ⟨0, 0, hA, .inr (.inr ⟨rfl, rfl, j, pq q, by simpa [pq] using hj, hi, hok, by rw [sts_pq]; exact hq, by simp [pq]⟩)⟩
    clear hq hA hlq
    obtain ⟨ao, cap, rfl, -⟩ := hL.form
    by_cases h0 : i < 0
    · go_wp2_with fail
      go_ret2
      exact ⟨⟨0, 4, HN.out (.inl h0), rfl⟩, hm⟩
    · by_cases h1 : (q.length : Int) ≤ i
      · go_wp2_with fail
        go_ret2
        exact ⟨⟨0, 4, HN.out (.inr h1), rfl⟩, hm⟩
      · obtain ⟨j, rfl⟩ : ∃ j : Nat, i = (j : Int) := ⟨i.toNat, by omega⟩
        have hj : j < q.length := by omega
        obtain ⟨gb, rfl, -, -, -, c3⟩ := hL.cell hj
        go_wp2_with fail
        go_ret2
        exact ⟨⟨q[j].wt, 0, HY.out j hj rfl, rfl⟩, hm⟩
end Go.Proofs.YtmnfndpbblpjiabGreatDoor

/- The program's Verify, and a step that asks for it. -/
namespace Go.Proofs.YtmnfndpbblpjiabGreatDoor
open Go.RowKit Pu

set_option maxHeartbeats 400000 in
theorem verify_long (s : ByteArray) (w : World) (hs : 8006 < s.size) (hm : s.size ≤ maxLen) : Calls Tryz.prog 24 #[.string s] w fun e w' => e = .returned (.tuple #[.int .i64 1, .int .i64 0]) ∧ Mod (fun _ => False) w w' := by
  have hd := dec_long s w hs hm
  unfold maxLen at hm
  go_enter Tryz.func24, Tryz.ntmps24
  go_wp2_with fail
  refine hd.mono ?_
  rintro e w1 ⟨rfl, hm1⟩
  go_wp2_with fail
  go_ret2
  exact ⟨rfl, hm1.alloc _⟩
set_option maxHeartbeats 400000 in
theorem verify_any (s : ByteArray) (w : World) (hs : s.size ≤ 8006) : Calls Tryz.prog 24 #[.string s] w fun e w' => e = .returned (.tuple #[.int .i64 (vfy s).1, .int .i64 (vfy s).2]) ∧ Mod (fun _ => False) w w' := by
  go_enter Tryz.func24, Tryz.ntmps24
  go_wp2_with fail
  refine (dec_any s w hs).mono ?_
  rintro e w1 ⟨⟨a, b, ao, n, cap, rfl, -⟩, hm1⟩
  go_wp2_with fail
  go_ret2
  exact ⟨rfl, hm1.alloc _⟩
end Go.Proofs.YtmnfndpbblpjiabGreatDoor

/- The program's Shrink, and a step that asks for it. -/
namespace Go.Proofs.YtmnfndpbblpjiabGreatDoor
open Go.RowKit Pu

set_option maxHeartbeats 400000 in
theorem shrink_long (s : ByteArray) (w : World) (hs : 8006 < s.size) (hm : s.size ≤ maxLen) : Calls Tryz.prog 40 #[.string s] w fun e w' => e = .returned (.tuple #[.string ⟨#[]⟩, .int .i64 1]) ∧ Mod (fun _ => False) w w' := by
  have hd := dec_long s w hs hm
  go_enter Tryz.func40, Tryz.ntmps40
  go_wp2_with fail
  refine hd.mono ?_
  rintro e w1 ⟨rfl, hm1⟩
  go_wp2_with fail
  go_ret2
  exact ⟨rfl, hm1.alloc _⟩
set_option maxHeartbeats 400000 in
theorem shrink_bad (s : ByteArray) (w : World) (hs : s.size ≤ 8006) (hv : (vfy s).1 = 8) : Calls Tryz.prog 40 #[.string s] w fun e w' => e = .returned (.tuple #[.string ⟨#[]⟩, .int .i64 8]) ∧ Mod (fun _ => False) w w' := by
  have HV : Hid ((vfy s).1 = 8) := hv
  clear hv
  go_enter Tryz.func40, Tryz.ntmps40
  go_wp2_with fail
  refine (dec_any s w hs).mono ?_
  rintro e w1 ⟨⟨a, b, ao, n, cap, he, -⟩, hm1⟩
  rw [HV.out] at he
  generalize (vfy s).2 = v2 at *
  subst he
  go_wp2_with fail
  go_ret2
  exact ⟨rfl, hm1.alloc _⟩
set_option maxHeartbeats 800000 in
theorem shrink_any (s : ByteArray) (w : World) (hs : s.size ≤ 8006) (hv : vfy s = (0, 0)) : Calls Tryz.prog 40 #[.string s] w fun e w' => e = .returned (.tuple #[.string (shr s), .int .i64 0]) ∧ Mod (fun _ => False) w w' := by
  have HV : Hid (vfy s = (0, 0)) := hv
  clear hv
  have HLen : Hid ((steps s).length = nst s) := stepsTo_len s _
  have HSS : Hid (∀ t ∈ steps s, Small t) := steps_small s
  go_enter Tryz.func40, Tryz.ntmps40
  go_wp2_with fail
  refine (dec_any s w hs).mono ?_
  rintro e w1 ⟨⟨a, b, ao, n, cap, he, hok⟩, hm1⟩
  rw [HV.out] at he hok
  subst he
  obtain ⟨rfl, rfl, hb, -, hL⟩ := hok rfl
  have HE : Hid (shr s = ⟨(joined (g s 2) (g s 3) (keepTo (steps s) (neededL (steps s)) (steps s).length)).toArray⟩) := show shr s = _ by rw [HLen.out]; exact shr_joined hb
  have hl : (steps s).length ≤ 3000 := by rw [HLen.out]; have := (nst_of hb).2.2.1; omega
  have HKM : Hid (∀ t ∈ keepTo (steps s) (neededL (steps s)) (steps s).length, Small t) := fun t ht => HSS.out t (keepTo_mem (Nat.le_refl _) t ht)
  have HKL : Hid ((keepTo (steps s) (neededL (steps s)) (steps s).length).length ≤ 3000) := show _ ≤ _ by
    rw [keepTo_len]; have := cntTo_le (neededL (steps s)) (steps s).length; omega
  have l2 := g_lt s 2
  have l3 := g_lt s 3
  generalize g s 2 = r2 at *
  generalize g s 3 = r3 at *
  clear hb
  have hpa : (w1.alloc (.cells #[.int .u8 r2, .int .u8 r3, .slice ao n cap] 63)).heap[w1.heap.size]? = some (.cells #[.int .u8 r2, .int .u8 r3, .slice ao n cap] 63 (0, 0)) := heap_alloc_new w1 _
  have hma := hm1.alloc (.cells #[.int .u8 r2, .int .u8 r3, .slice ao n cap] 63)
  have hLa := hL.mod ((Mod.refl (fun _ => False) w1).alloc (.cells #[.int .u8 r2, .int .u8 r3, .slice ao n cap] 63))
  have hs1 := hm1.size
  have HH : Hid _ := And.intro hpa (And.intro hma hLa)
  clear hpa hma hLa hL hm1
  go_wp2_with fail
  generalize w1.alloc (.cells #[.int .u8 r2, .int .u8 r3, .slice ao n cap] 63) = w2 at *
  obtain ⟨hpa, hma, hLa⟩ := HH.out
  clear HH
  refine (kept_any _ (steps s) _ w2 hl hLa HSS.out).mono ?_
  rintro e w3 ⟨hm3, u, rfl, hK⟩
  obtain ⟨uo, ucap, rfl, -⟩ := owns_form hK
  have hp3 := hm3.keep hpa (fun f => f)
  have hm3w := hma.trans hm3
  obtain ⟨c0, c1, c2⟩ := cells3 hp3
  have f2 := fz3 hp3 2
  have hp2l := lt_of_block hpa
  generalize keepTo (steps s) (neededL (steps s)) (steps s).length = q at *
  have hp4 := set3_2 (z' := .slice uo q.length ucap) hp3
  obtain ⟨d0, d1, d2⟩ := cells3 hp4
  have hm4 : Mod (fun _ => False) w (w3.setCell ⟨w1.heap.size, 2, none⟩ (.slice uo q.length ucap)) := hm3w.setCell ⟨w1.heap.size, 2, none⟩ (.slice uo q.length ucap) (fun h => absurd h (by show ¬ w1.heap.size < w.heap.size; omega))
  have hK4 : PLst (w3.setCell ⟨w1.heap.size, 2, none⟩ (.slice uo q.length ucap)) w2.heap.size (.slice uo q.length ucap) q :=
    owns_mod hK ((Mod.refl (fun k => k = w1.heap.size) w3).setCell ⟨w1.heap.size, 2, none⟩ (.slice uo q.length ucap) (fun _ => rfl)) (fun g h1 h2 => by omega)
  have HX : Hid _ := And.intro d0 (And.intro d1 (And.intro d2 (And.intro hm4 hK4)))
  clear d0 d1 d2 hm4 hK4 hK hp4 hp3 hpa hma hm3 hm3w hLa
  go_wp2_with fail
  obtain ⟨-, -, -, hm4, hK4⟩ := HX.out
  refine (join_any _ q r2 r3 _ _ HKL.out hK4 HKM.out l2 l3).mono ?_
  rintro e w5 ⟨rfl, hm5⟩
  have hmE := hm4.trans hm5
  clear HX hK4 hm4 hm5
  go_wp2_with fail
  go_ret2
  exact ⟨by rw [HE.out]; rfl, hmE⟩

theorem Pu.vfy_or (s : ByteArray) : (vfy s).1 = 8 ∨ (vfy s = (0, 0) ∧ begunB s = true) := by
  cases hb : begunB s with
  | false => exact .inl (by rw [vfy_bad hb])
  | true =>
    unfold vfy
    rw [hb]
    simp only [Bool.true_eq_false, if_false]
    split
    · exact .inl rfl
    · exact .inr ⟨rfl, trivial⟩
end Go.Proofs.YtmnfndpbblpjiabGreatDoor

/- The document's Exec. -/
namespace Go.Proofs.YtmnfndpbblpjiabGreatDoor
open Go.RowKit Pu

/-- What is not a fault of the code. -/
theorem Pu.exe_bad {B : Nat} {s inp : ByteArray} (h : (vfy s).1 = 8) : exe B s inp = (⟨#[]⟩, 8) := by simp [exe, h]
theorem Pu.exe_none {B : Nat} {s inp : ByteArray} (h : vfy s = (0, 0)) (hi : inps inp = none) : exe B s inp = (⟨#[]⟩, 9) := by simp [exe, h, hi]
theorem Pu.exe_count {B : Nat} {s inp : ByteArray} {l : List Int} (h : vfy s = (0, 0)) (hi : inps inp = some l) (hl : l.length ≠ g s 3) : exe B s inp = (⟨#[]⟩, 9) := by simp [exe, h, hi, hl]
theorem Pu.exe_play {B : Nat} {s inp : ByteArray} {l : List Int} (h : vfy s = (0, 0)) (hi : inps inp = some l) (hl : l.length = g s 3) : exe B s inp = play B l (steps s) (List.replicate 128 0) ⟨#[]⟩ := by simp [exe, h, hi, hl]
end Go.Proofs.YtmnfndpbblpjiabGreatDoor

/- The program's Exec, and a step that asks for it. -/
namespace Go.Proofs.YtmnfndpbblpjiabGreatDoor
open Go.RowKit Pu

set_option maxHeartbeats 400000 in
theorem exec_long (s inp : ByteArray) (w : World) (hs : 8006 < s.size ∨ 140 < inp.size) (hm : s.size ≤ maxLen) (hm2 : inp.size ≤ maxLen) : Calls Tryz.prog 26 #[.string s, .string inp] w fun e w' => e = .returned (.tuple #[.string ⟨#[]⟩, .int .i64 1]) ∧ w = w' := by
  unfold maxLen at hm hm2
  by_cases h1 : 8006 < s.size
  · have i1 : (8006 : Int) < (s.size : Int) := by omega
    clear hs
    go_enter Tryz.func26, Tryz.ntmps26
    go_wp2_with fail
    go_ret2
    exact ⟨rfl, rfl⟩
  · have i1 : ¬ (8006 : Int) < (s.size : Int) := by omega
    have i2 : (140 : Int) < (inp.size : Int) := by omega
    clear hs
    go_enter Tryz.func26, Tryz.ntmps26
    go_wp2_with fail
    go_ret2
    exact ⟨rfl, rfl⟩

set_option maxHeartbeats 800000 in
set_option maxRecDepth 4000 in
theorem exec_any (B nn : Nat) (hB : B = 10 ^ nn) (hnn : nn = 8000) (s inp : ByteArray) (w : World) (hs : s.size ≤ 8006) (hi : inp.size ≤ 140) : Calls Tryz.prog 26 #[.string s, .string inp] w fun e w' => e = .returned (.tuple #[.string (exe B s inp).1, .int .i64 (exe B s inp).2]) ∧ Mod (fun _ => False) w w' := by
  have i1 : ¬ (8006 : Int) < (s.size : Int) := by omega
  have i2 : ¬ (140 : Int) < (inp.size : Int) := by omega
  have HB : Hid (B = 10 ^ nn) := hB
  have HNN : Hid (nn = 8000) := hnn
  clear hB hnn
  rcases vfy_or s with hv | ⟨hv, hbg⟩
  · have HE : Hid (exe B s inp = (⟨#[]⟩, 8)) := exe_bad hv
    have HV : Hid ((vfy s).1 = 8) := hv
    clear hv
    generalize exe B s inp = ex at *
    go_enter Tryz.func26, Tryz.ntmps26
    go_wp2_with fail
    refine (dec_any s w hs).mono ?_
    rintro e w1 ⟨⟨a, b, ao, n, cap, he, -⟩, hm1⟩
    rw [HV.out] at he
    generalize (vfy s).2 = v2 at *
    subst he
    have hm := hm1.alloc (.cells #[.int .u8 a, .int .u8 b, .slice ao n cap] 63)
    go_wp2_with fail
    go_ret2
    exact ⟨by rw [HE.out]; rfl, hm⟩
  · have HV : Hid (vfy s = (0, 0)) := hv
    have hn2 : nst s ≤ 2000 := (nst_of hbg).2.2.1
    have hr2 : g s 2 ≤ 128 := (nst_of hbg).2.2.2.2.2.1
    have HLen : Hid ((steps s).length = nst s) := stepsTo_len s _
    have HG : Hid (∀ t ∈ steps s, Good (g s 3) t) := fun t ht => by
      obtain ⟨j, hj, rfl⟩ := List.getElem_of_mem ht
      rw [steps_at]
      exact right_good (stepAt_small s j) hr2 ((vfy_right HV.out).2 j (by rw [steps, stepsTo_len] at hj; exact hj))
    have l3 := g_lt s 3
    have w3 : IntKind.i64.wrap (g s 3 : Int) = (g s 3 : Int) := by simp [IntKind.wrap, IntKind.signed, IntKind.bits]; omega
    clear hv hbg hr2
    go_enter Tryz.func26, Tryz.ntmps26
    go_wp2_with fail
    refine (dec_any s w hs).mono ?_
    rintro e w1 ⟨⟨a, b, ao, n, cap, he, hok⟩, hm1⟩
    rw [HV.out] at he hok
    subst he
    obtain ⟨rfl, rfl, -, -, hL⟩ := hok rfl
    clear hok
    have hpa := heap_alloc_new w1 (.cells #[.int .u8 (g s 2), .int .u8 (g s 3), .slice ao n cap] 63)
    have hma := hm1.alloc (.cells #[.int .u8 (g s 2), .int .u8 (g s 3), .slice ao n cap] 63)
    have hLa := hL.mod ((Mod.refl (fun _ => False) w1).alloc (.cells #[.int .u8 (g s 2), .int .u8 (g s 3), .slice ao n cap] 63))
    obtain ⟨c0, c1, c2⟩ := cells3 hpa
    have HH : Hid _ := And.intro hpa (And.intro hma hLa)
    clear hpa hma hLa hL hm1
    go_wp2_with fail
    generalize w1.alloc (.cells #[.int .u8 (g s 2), .int .u8 (g s 3), .slice ao n cap] 63) = w2 at *
    obtain ⟨hpa, hma, hLa⟩ := HH.out
    clear HH
    refine (start_any B nn HB.out HNN.out (g s 2) (g s 3) (.slice ao n cap) (steps s) _ inp w2 (by rw [HLen.out]; omega) hLa hi l3 HG.out).mono ?_
    rintro e w3 ⟨rfl, hm3⟩
    have HE : Hid (exe B s inp = stt B (g s 3) (steps s) inp) := exe_stt HV.out
    have hmE := hma.trans hm3
    generalize stt B (g s 3) (steps s) inp = st at *
    clear hpa hma hLa hm3
    go_wp2_with fail
    go_ret2
    exact ⟨by rw [HE.out]; rfl, hmE⟩
end Go.Proofs.YtmnfndpbblpjiabGreatDoor

/- rulerkeep's bit. -/
namespace Go.Proofs.YtmnfndpbblpjiabGreatDoor
open Go.RowKit Pu
def bitB (b : Bool) : ByteArray := if b then ⟨#[49]⟩ else ⟨#[48]⟩
set_option maxHeartbeats 400000 in
theorem bit_any (b : Bool) (w : World) : Calls Tryz.prog 10 #[.bool b] w fun e w' => e = .returned (.string (bitB b)) ∧ w = w' := by
  cases b
  · go_enter Tryz.func10, Tryz.ntmps10
    go_wp2_with fail
    go_ret
    exact ⟨rfl, rfl⟩
  · go_enter Tryz.func10, Tryz.ntmps10
    go_wp2_with fail
    go_ret
    exact ⟨rfl, rfl⟩
end Go.Proofs.YtmnfndpbblpjiabGreatDoor
