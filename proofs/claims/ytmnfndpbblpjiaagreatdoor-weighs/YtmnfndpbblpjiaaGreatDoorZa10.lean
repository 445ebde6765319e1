/- Needs and Weight, on both sides. -/
import Derived.Test.YtmnfndpbblpjiaaGreatDoorZa05
import Derived.Test.YtmnfndpbblpjiaaGreatDoorZa08
import Derived.Test.YtmnfndpbblpjiaaGreatDoorZa07
namespace Go.Proofs.YtmnfndpbblpjiaaGreatDoor
open Go.RowKit Pu
def ptR (x : St) : Nat := if (x.name != 0 && x.word == [112, 116]) = true then 2 else 0
def ptP (x : St) : Nat := if (x.word == [112, 116]) = true then 2 else 0
def ndR (l : List St) : Nat := (l.map ptR).sum
def ndP (l : List St) : Nat := (l.map ptP).sum
theorem ndR_snoc (l : List St) (x : St) : ndR (l ++ [x]) = ndR l + ptR x := by simp [ndR]
theorem ndP_snoc (l : List St) (x : St) : ndP (l ++ [x]) = ndP l + ptP x := by simp [ndP]
theorem ndR_le (l : List St) : ndR l ≤ 2 * l.length := by
  induction l with
  | nil => simp [ndR]
  | cons x l ih =>
    simp only [ndR, List.map_cons, List.sum_cons, List.length_cons] at *
    have : ptR x ≤ 2 := by unfold ptR; split <;> omega
    omega
theorem ndP_le (l : List St) : ndP l ≤ 2 * l.length := by
  induction l with
  | nil => simp [ndP]
  | cons x l ih =>
    simp only [ndP, List.map_cons, List.sum_cons, List.length_cons] at *
    have : ptP x ≤ 2 := by unfold ptP; split <;> omega
    omega
theorem nd_same {p : List (St × Nat)} (h : Ok p) : ndP (sts p) = ndR (sts p) := by
  unfold ndP ndR
  congr 1
  refine List.map_congr_left fun x hx => ?_
  obtain ⟨j, hj, rfl⟩ := List.getElem_of_mem hx
  have hj' : j < p.length := by simpa [sts] using hj
  have hk := (err_zero (h j hj').1).1
  have he : (sts p)[j] = p[j].1 := by simp [sts]
  rw [he]
  unfold ptP ptR
  by_cases hw : (p[j].1.word == [112, 116]) = true
  · have hw' : p[j].1.word = [112, 116] := by simpa using hw
    have hn : p[j].1.name ≠ 0 := by
      intro h0
      unfold known at hk
      rw [hw', h0] at hk
      revert hk; decide
    simp [hw', hn]
  · simp [hw]
theorem Ans.zero {s : ByteArray} {b : Nat} (h : Ans s 0 b) : Whole s ∧ b = 0 ∧ ∃ p, Ok p ∧ sts p = (gaA s s.size).l := by
  rcases h with ⟨_, h⟩ | ⟨_, p, hk, _, _, he, h⟩ | ⟨hw, _, hb, p, hok, hp⟩
  · omega
  · exact absurd h.symm he
  · exact ⟨hw, hb, p, hok, hp⟩
def NdA (s : ByteArray) (n a : Nat) : Prop := ∃ b, Ans s a b ∧ ((a ≠ 0 ∧ n = 0) ∨ (a = 0 ∧ n = ndR (gaA s s.size).l))
theorem NdA.unique {s : ByteArray} {n a m c : Nat} (h : NdA s n a) (k : NdA s m c) : n = m ∧ a = c := by
  obtain ⟨b, hA, h⟩ := h
  obtain ⟨d, kA, k⟩ := k
  obtain ⟨rfl, rfl⟩ := hA.unique kA
  refine ⟨?_, rfl⟩
  rcases h with h | h <;> rcases k with k | k <;> first | omega | exact absurd k.1 h.1 | exact absurd h.1 k.1
def WtA (s : ByteArray) (i : Int) (n a : Nat) : Prop := ∃ c b, Ans s c b ∧ ((c ≠ 0 ∧ n = 0 ∧ a = c) ∨ (c = 0 ∧ (i < 0 ∨ ((gaA s s.size).l.length : Int) ≤ i) ∧ n = 0 ∧ a = 4) ∨
  (c = 0 ∧ a = 0 ∧ ∃ (j : Nat) (p : List (St × Nat)) (hj : j < p.length), i = (j : Int) ∧ Ok p ∧ sts p = (gaA s s.size).l ∧ n = p[j].2))
theorem WtA.unique {s : ByteArray} {i : Int} {n a m c : Nat} (h : WtA s i n a) (k : WtA s i m c) : n = m ∧ a = c := by
  obtain ⟨x, b, hA, h⟩ := h
  obtain ⟨y, d, kA, k⟩ := k
  obtain ⟨rfl, rfl⟩ := hA.unique kA
  have len : ∀ {p : List (St × Nat)}, sts p = (gaA s s.size).l → p.length = (gaA s s.size).l.length := fun {p} hp => by have := congrArg List.length hp; simpa [sts] using this
  rcases h with ⟨h0, rfl, rfl⟩ | ⟨h0, hi, rfl, rfl⟩ | ⟨h0, rfl, j, p, hj, rfl, hok, hp, rfl⟩ <;> rcases k with ⟨k0, rfl, rfl⟩ | ⟨k0, ki, rfl, rfl⟩ | ⟨k0, rfl, j', p', hj', hji, hok', hp', rfl⟩
  · exact ⟨rfl, rfl⟩
  · exact absurd k0 h0
  · exact absurd k0 h0
  · exact absurd h0 k0
  · exact ⟨rfl, rfl⟩
  · have := len hp'; omega
  · exact absurd h0 k0
  · have := len hp; omega
  · have hjj : j = j' := by omega
    subst hjj
    have e1 := len hp
    have e2 := len hp'
    have := Ok.unique hok hok' p.length (Nat.le_refl _) (by omega) (by rw [hp, hp'])
    rw [List.take_length, List.take_of_length_le (by omega)] at this
    subst this
    exact ⟨rfl, rfl⟩
set_option maxHeartbeats 400000 in
theorem needs_long (s : ByteArray) (w : World) (hs : 300 < s.size) (hm : s.size ≤ maxLen) : Calls Tryz.prog 40 #[.string s] w fun e w' => e = .returned (.tuple #[.int .i64 0, .int .i64 1]) ∧ w = w' := by
  go_enter Tryz.func40, Tryz.ntmps40
  go_wp2_with fail
  refine (und_long s w hs hm).mono ?_
  rintro e w2 ⟨rfl, rfl⟩
  go_wp2_with fail
  go_ret2
  exact ⟨rfl, rfl⟩
set_option maxHeartbeats 400000 in
theorem weight_long (s : ByteArray) (i : Int) (w : World) (hs : 300 < s.size) (hm : s.size ≤ maxLen) : Calls Tryz.prog 42 #[.string s, .int .i64 i] w fun e w' => e = .returned (.tuple #[.int .i64 0, .int .i64 1]) ∧ w = w' := by
  go_enter Tryz.func42, Tryz.ntmps42
  go_wp2_with fail
  refine (und_long s w hs hm).mono ?_
  rintro e w2 ⟨rfl, rfl⟩
  go_wp2_with fail
  go_ret2
  exact ⟨rfl, rfl⟩
set_option maxHeartbeats 800000 in
set_option maxRecDepth 100000 in
theorem needs_any (s : ByteArray) (w : World) (hs : s.size ≤ 300) : Calls Tryz.prog 40 #[.string s] w fun e w' => (∃ n a : Nat, NdA s n a ∧ e = .returned (.tuple #[.int .i64 n, .int .i64 a])) ∧ Mod (fun _ => False) w w' := by
  go_enter Tryz.func40, Tryz.ntmps40
  go_wp2_with fail
  refine (und_any s w hs).mono ?_
  rintro e w2 ⟨hm, ⟨k, hst, rfl⟩ | ⟨hw, p, k, hk, hok, hp, he, rfl⟩ | ⟨hw, v, q, hok, hq, hL, hle, rfl⟩⟩
  · go_wp2_with fail
    go_ret2
    exact ⟨⟨0, 2, ⟨k, .inl ⟨hst, rfl⟩, .inl ⟨by omega, rfl⟩⟩, rfl⟩, hm⟩
  · have HA : Hid (NdA s 0 (err p (gaA s s.size).l[k])) := ⟨k, .inr (.inl ⟨hw, p, hk, hok, hp, he, rfl⟩), .inl ⟨he, rfl⟩⟩
    generalize err p (gaA s s.size).l[k] = er at *
    clear hp
    have hb : ((er : Int) != 0) = true := by rw [bne_iff_ne]; omega
    go_wp2_with fail
    go_ret2
    exact ⟨⟨0, er, HA.out, rfl⟩, hm⟩
  · have HA : Hid (NdA s (ndP (q.map It.x)) 0) := ⟨0, .inr (.inr ⟨hw, rfl, rfl, pq q, hok, by rw [sts_pq]; exact hq⟩), .inr ⟨rfl, by rw [← hq, ← sts_pq, nd_same hok]⟩⟩
    clear hq
    obtain ⟨ao, cap, rfl, -⟩ := hL.form
    go_wp2_with fail
    go_loop [7, 20] (fun a i => ∃ k : Nat, k ≤ q.length ∧ i = .int .i64 k ∧ a = .int .i64 (ndP ((q.map It.x).take k))) (fun _ i => q.length - (intOf i).toNat)
    case atStart => exact ⟨0, by omega, rfl, rfl⟩
    case round =>
      obtain ⟨k, hk, rfl, rfl⟩ := hrel
      have b1 := ndP_le ((q.map It.x).take k)
      have b2 : ((q.map It.x).take k).length ≤ k := List.length_take_le _ _
      by_cases hlt : k < q.length
      · have HT : Hid ((q.map It.x).take (k + 1) = (q.map It.x).take k ++ [q[k].x]) := show (q.map It.x).take (k + 1) = (q.map It.x).take k ++ [q[k].x] by rw [take_snoc' _ _ (by simpa using hlt)]; simp
        obtain ⟨gb, rfl, -, c1, -⟩ := hL.cell hlt
        cases hpt : (q[k].x.word == [112, 116]) with
        | true =>
          have HP : Hid (ptP q[k].x = 2) := show ptP q[k].x = 2 by simp [ptP, hpt]
          go_wp2_with fail
          go_round
          case rel => exact ⟨k + 1, by omega, by go_num, by rw [HT.out, ndP_snoc, HP.out]; go_num⟩
          case measure => simp [intOf]; omega
        | false =>
          have HP : Hid (ptP q[k].x = 0) := show ptP q[k].x = 0 by simp [ptP, hpt]
          go_wp2_with fail
          go_round
          case rel => exact ⟨k + 1, by omega, by go_num, by rw [HT.out, ndP_snoc, HP.out]; rfl⟩
          case measure => simp [intOf]; omega
      · have HT : Hid ((q.map It.x).take k = q.map It.x) := show (q.map It.x).take k = q.map It.x by rw [List.take_of_length_le (by simp; omega)]
        go_wp2_with fail
        go_ret2
        exact ⟨⟨ndP (q.map It.x), 0, HA.out, by rw [HT.out]; rfl⟩, hm⟩
set_option maxHeartbeats 800000 in
set_option maxRecDepth 100000 in
theorem weightc_any (s : ByteArray) (i : Int) (w : World) (hs : s.size ≤ 300) : Calls Tryz.prog 42 #[.string s, .int .i64 i] w fun e w' => (∃ n a : Nat, WtA s i n a ∧ e = .returned (.tuple #[.int .i64 n, .int .i64 a])) ∧ Mod (fun _ => False) w w' := by
  go_enter Tryz.func42, Tryz.ntmps42
  go_wp2_with fail
  refine (und_any s w hs).mono ?_
  rintro e w2 ⟨hm, ⟨k, hst, rfl⟩ | ⟨hw, p, k, hk, hok, hp, he, rfl⟩ | ⟨hw, v, q, hok, hq, hL, hle, rfl⟩⟩
  · go_wp2_with fail
    go_ret2
    exact ⟨⟨0, 2, ⟨2, k, .inl ⟨hst, rfl⟩, .inl ⟨by omega, rfl, rfl⟩⟩, rfl⟩, hm⟩
  · have HA : Hid (WtA s i 0 (err p (gaA s s.size).l[k])) := ⟨_, k, .inr (.inl ⟨hw, p, hk, hok, hp, he, rfl⟩), .inl ⟨he, rfl, rfl⟩⟩
    generalize err p (gaA s s.size).l[k] = er at *
    clear hp
    have hb : ((er : Int) != 0) = true := by rw [bne_iff_ne]; omega
    go_wp2_with fail
    go_ret2
    exact ⟨⟨0, er, HA.out, rfl⟩, hm⟩
  · have hA : Ans s 0 0 := .inr (.inr ⟨hw, rfl, rfl, pq q, hok, by rw [sts_pq]; exact hq⟩)
    have hlq : (gaA s s.size).l.length = q.length := by rw [← hq]; simp
    have HN : Hid (i < 0 ∨ (q.length : Int) ≤ i → WtA s i 0 4) := fun h => ⟨0, 0, hA, .inr (.inl ⟨rfl, by rw [hlq]; exact h, rfl, rfl⟩)⟩
    have HY : Hid (∀ (j : Nat) (hj : j < q.length), i = (j : Int) → WtA s i q[j].wt 0) := fun j hj hi => ⟨0, 0, hA, .inr (.inr ⟨rfl, rfl, j, pq q, by simpa [pq] using hj, hi, hok, by rw [sts_pq]; exact hq, by simp [pq]⟩)⟩
    clear hq hA hlq
    obtain ⟨ao, cap, rfl, -⟩ := hL.form
    by_cases h0 : i < 0
    · go_wp2_with fail
      go_ret2
      exact ⟨⟨0, 4, HN.out (.inl h0), rfl⟩, hm⟩
    · by_cases h1 : (q.length : Int) ≤ i
      · go_wp2_with fail
        go_ret2
        exact ⟨⟨0, 4, HN.out (.inr h1), rfl⟩, hm⟩
      · obtain ⟨j, rfl⟩ : ∃ j : Nat, i = (j : Int) := ⟨i.toNat, by omega⟩
        have hj : j < q.length := by omega
        obtain ⟨gb, rfl, -, -, -, c3⟩ := hL.cell hj
        go_wp2_with fail
        go_ret2
        exact ⟨⟨q[j].wt, 0, HY.out j hj rfl, rfl⟩, hm⟩
end Go.Proofs.YtmnfndpbblpjiaaGreatDoor

/- Needs and Weight, on both sides. -/
namespace Go.Proofs.YtmnfndpbblpjiaaGreatDoor
open Go.RowKit Pu
set_option maxHeartbeats 400000 in
theorem rneeds_long (s : ByteArray) (w : World) (hs : 300 < s.size) (hm : s.size ≤ maxLen) : Calls Tryz.prog 41 #[.string s] w fun e w' => e = .returned (.tuple #[.int .i64 0, .int .i64 1]) ∧ w = w' := by
  go_enter Tryz.func41, Tryz.ntmps41
  go_wp2_with fail
  refine (rcheck_long s w hs hm).mono ?_
  rintro e w2 ⟨rfl, rfl⟩
  go_wp2_with fail
  go_ret2
  exact ⟨rfl, rfl⟩
set_option maxHeartbeats 400000 in
theorem rweight_long (s : ByteArray) (i : Int) (w : World) (hs : 300 < s.size) (hm : s.size ≤ maxLen) : Calls Tryz.prog 43 #[.string s, .int .i64 i] w fun e w' => e = .returned (.tuple #[.int .i64 0, .int .i64 1]) ∧ w = w' := by
  go_enter Tryz.func43, Tryz.ntmps43
  go_wp2_with fail
  refine (rcheck_long s w hs hm).mono ?_
  rintro e w2 ⟨rfl, rfl⟩
  go_wp2_with fail
  go_ret2
  exact ⟨rfl, rfl⟩
set_option maxHeartbeats 800000 in
set_option maxRecDepth 100000 in
theorem rneed_any (v : Value) (l : List St) (base : Nat) (w : World) (hl : l.length ≤ 1000) (hL : RLst w base v l) : Calls Tryz.prog 52 #[v] w fun e w' => e = .returned (.int .i64 (ndR l)) ∧ w = w' := by
  obtain ⟨ao, cap, rfl, -⟩ := owns_form hL
  go_enter Tryz.func52, Tryz.ntmps52
  go_wp2_with fail
  go_loop [3, 4] (fun a i => ∃ k : Nat, k ≤ l.length ∧ i = .int .i64 k ∧ a = .int .i64 (ndR (l.take k))) (fun _ i => l.length - (intOf i).toNat)
  case atStart => exact ⟨0, by omega, rfl, rfl⟩
  case round =>
    obtain ⟨k, hk, rfl, rfl⟩ := hrel
    have b1 := ndR_le (l.take k)
    have b2 : (l.take k).length ≤ k := List.length_take_le _ _
    by_cases hlt : k < l.length
    · have HT : Hid (l.take (k + 1) = l.take k ++ [l[k]]) := take_snoc' _ _ hlt
      obtain ⟨gb, rfl, c0, c1, -⟩ := hL.cell hlt
      by_cases hn : l[k].name = 0
      · have HP : Hid (ptR l[k] = 0) := show ptR l[k] = 0 by simp [ptR, hn]
        have hb : ((l[k].name : Int) != 0) = false := by rw [hn]; rfl
        clear hn
        go_wp2_with fail
        go_round
        case rel => exact ⟨k + 1, by omega, by go_num, by rw [HT.out, ndR_snoc, HP.out]; rfl⟩
        case measure => simp [intOf]; omega
      · have hb : ((l[k].name : Int) != 0) = true := by rw [bne_iff_ne]; omega
        cases hpt : (l[k].word == [112, 116]) with
        | true =>
          have HP : Hid (ptR l[k] = 2) := show ptR l[k] = 2 by simp [ptR, hpt, hn]
          go_wp2_with fail
          go_round
          case rel => exact ⟨k + 1, by omega, by go_num, by rw [HT.out, ndR_snoc, HP.out]; go_num⟩
          case measure => simp [intOf]; omega
        | false =>
          have HP : Hid (ptR l[k] = 0) := show ptR l[k] = 0 by simp [ptR, hpt]
          go_wp2_with fail
          go_round
          case rel => exact ⟨k + 1, by omega, by go_num, by rw [HT.out, ndR_snoc, HP.out]; rfl⟩
          case measure => simp [intOf]; omega
    · have HT : Hid (l.take k = l) := List.take_of_length_le (by omega)
      go_wp2_with fail
      go_ret
      exact ⟨by rw [HT.out]; rfl, rfl⟩
set_option maxHeartbeats 800000 in
set_option maxRecDepth 100000 in
theorem rneeds_any (s : ByteArray) (w : World) (hs : s.size ≤ 300) : Calls Tryz.prog 41 #[.string s] w fun e w' => (∃ n a : Nat, NdA s n a ∧ e = .returned (.tuple #[.int .i64 n, .int .i64 a])) ∧ Mod (fun _ => False) w w' := by
  go_enter Tryz.func41, Tryz.ntmps41
  go_wp2_with fail
  refine (rcheck_any s w hs).mono ?_
  rintro e w2 ⟨⟨a, b, hA, rfl⟩, hm⟩
  by_cases h0 : a = 0
  · subst h0
    obtain ⟨hw, -, -⟩ := hA.zero
    have HN : Hid (NdA s (ndR (gaA s s.size).l) 0) := ⟨b, hA, .inr ⟨rfl, rfl⟩⟩
    clear hA
    go_wp2_with fail
    refine (stmts_any s w2 hs (whole_head hw)).mono ?_
    rintro e w3 ⟨hm3, v, rfl, hL⟩
    have hll := (ga_len s s.size).1
    generalize (gaA s s.size).l = l at *
    go_wp2_with fail
    refine (rneed_any v l _ _ (by omega) hL).mono ?_
    rintro e w4 ⟨rfl, rfl⟩
    go_wp2_with fail
    go_ret2
    exact ⟨⟨ndR l, 0, HN.out, rfl⟩, hm.trans hm3⟩
  · have HN : Hid (NdA s 0 a) := ⟨b, hA, .inl ⟨h0, rfl⟩⟩
    have hb : ((a : Int) != 0) = true := by rw [bne_iff_ne]; omega
    go_wp2_with fail
    go_ret2
    exact ⟨⟨0, a, HN.out, rfl⟩, hm⟩
set_option maxHeartbeats 800000 in
set_option maxRecDepth 100000 in
theorem rweightc_any (s : ByteArray) (i : Int) (w : World) (hs : s.size ≤ 300) : Calls Tryz.prog 43 #[.string s, .int .i64 i] w fun e w' => (∃ n a : Nat, WtA s i n a ∧ e = .returned (.tuple #[.int .i64 n, .int .i64 a])) ∧ Mod (fun _ => False) w w' := by
  go_enter Tryz.func43, Tryz.ntmps43
  go_wp2_with fail
  refine (rcheck_any s w hs).mono ?_
  rintro e w2 ⟨⟨a, b, hA, rfl⟩, hm⟩
  by_cases h0 : a = 0
  · subst h0
    obtain ⟨hw, -, p, hok, hp⟩ := hA.zero
    have hpl : p.length = (gaA s s.size).l.length := by have := congrArg List.length hp; simpa [sts] using this
    have HN : Hid (i < 0 ∨ ((gaA s s.size).l.length : Int) ≤ i → WtA s i 0 4) := fun h => ⟨0, b, hA, .inr (.inl ⟨rfl, h, rfl, rfl⟩)⟩
    have HY : Hid (∀ (j : Nat) (hj : j < p.length), i = (j : Int) → WtA s i p[j].2 0) := fun j hj hi => ⟨0, b, hA, .inr (.inr ⟨rfl, rfl, j, p, hj, hi, hok, hp, rfl⟩)⟩
    have HP : Hid (sts p = (gaA s s.size).l) := hp
    have HPL : Hid (p.length = (gaA s s.size).l.length) := hpl
    clear hA hp hpl
    go_wp2_with fail
    refine (stmts_any s w2 hs (whole_head hw)).mono ?_
    rintro e w3 ⟨hm3, v, rfl, hL⟩
    have hll := (ga_len s s.size).1
    generalize (gaA s s.size).l = l at *
    have hL' := hL
    obtain ⟨ao, cap, rfl, -⟩ := owns_form hL'
    clear hL'
    by_cases h0 : i < 0
    · go_wp2_with fail
      go_ret2
      exact ⟨⟨0, 4, HN.out (.inl h0), rfl⟩, hm.trans hm3⟩
    · by_cases h1 : (l.length : Int) ≤ i
      · go_wp2_with fail
        go_ret2
        exact ⟨⟨0, 4, HN.out (.inr h1), rfl⟩, hm.trans hm3⟩
      · obtain ⟨j, rfl⟩ : ∃ j : Nat, i = (j : Int) := ⟨i.toNat, by omega⟩
        have hj : j < p.length := by have := HPL.out; omega
        have hwt := weight_at (.slice ao l.length cap) l _ w3 p (by omega) hL hok (by rw [HP.out, HPL.out, List.take_length]) (by have := HPL.out; omega) (j + 1) j hj (by omega)
        have HW : Hid (Calls Tryz.prog 70 #[.slice ao l.length cap, .int .i64 j] w3 fun e w' => e = .returned (.int .i64 p[j].2) ∧ w3 = w') := hwt
        clear hwt
        go_wp2_with fail
        refine HW.out.mono ?_
        rintro e w4 ⟨rfl, rfl⟩
        go_wp2_with fail
        go_ret2
        exact ⟨⟨p[j].2, 0, HY.out j hj rfl, rfl⟩, hm.trans hm3⟩
  · have HN : Hid (WtA s i 0 a) := ⟨a, b, hA, .inl ⟨h0, rfl, rfl⟩⟩
    have hb : ((a : Int) != 0) = true := by rw [bne_iff_ne]; omega
    go_wp2_with fail
    go_ret2
    exact ⟨⟨0, a, HN.out, rfl⟩, hm⟩
end Go.Proofs.YtmnfndpbblpjiaaGreatDoor

/- A step that asks for Needs and Weight. -/
namespace Go.Proofs.YtmnfndpbblpjiaaGreatDoor
open Go.RowKit Pu
set_option maxHeartbeats 800000 in
set_option maxRecDepth 100000 in
theorem texts_weigh (n : Int) (a b : ByteArray) (w : World) (ha : a.size ≤ maxLen) : Calls Tryz.prog 22 #[op4 2 n a b] w fun e w' => e = .returned (.bool true) ∧ Mod (fun _ => False) w w' := by
  have hO := ope_new w 2 n a b
  have hm0 : Mod (fun _ => False) w (w.alloc (.cells #[.int .i64 2, .int .i64 n, .string a, .string b] 32)) := (Mod.refl _ w).alloc _
  by_cases hs : a.size ≤ 300
  · go_enter Tryz.func22, Tryz.ntmps22
    go_wp2_with fail
    refine (needs_any a _ hs).mono ?_
    rintro e w1 ⟨⟨x, y, hA, rfl⟩, hm1⟩
    have hO1 := hO.keep hm1 (fun f => f)
    have c2 := hO1.c2
    go_wp2_with fail
    refine (rneeds_any a _ hs).mono ?_
    rintro e w2 ⟨⟨x', y', hA', rfl⟩, hm2⟩
    obtain ⟨rfl, rfl⟩ := hA.unique hA'
    have hO2 := hO1.keep hm2 (fun f => f)
    have hm := hm0.trans (hm1.trans hm2)
    clear hA hA' hm0 hm1 hm2 c2 hO1 hO
    have c1 := hO2.c1
    have c2 := hO2.c2
    go_wp2_with fail
    refine (num_any _ _).mono ?_
    rintro e w' ⟨rfl, rfl⟩
    go_wp2_with fail
    refine (weightc_any a n _ hs).mono ?_
    rintro e w3 ⟨⟨z, t, hB, rfl⟩, hm3⟩
    have hO3 := hO2.keep hm3 (fun f => f)
    clear c1 c2 hO2
    have c1 := hO3.c1
    have c2 := hO3.c2
    go_wp2_with fail
    refine (rweightc_any a n _ hs).mono ?_
    rintro e w4 ⟨⟨z', t', hB', rfl⟩, hm4⟩
    obtain ⟨rfl, rfl⟩ := hB.unique hB'
    have hmm := hm.trans (hm3.trans hm4)
    clear hB hB' hm hm3 hm4 c1 c2 hO3
    go_wp2_with (go_at_call 25; refine (num_any _ _).mono ?_; rintro e w' ⟨rfl, rfl⟩)
    go_ret
    exact ⟨rfl, hmm⟩
  · have c1 := hO.c1
    have c2 := hO.c2
    go_enter Tryz.func22, Tryz.ntmps22
    go_wp2_with fail
    refine (needs_long a _ (by omega) ha).mono ?_
    rintro e w1 ⟨rfl, rfl⟩
    go_wp2_with fail
    refine (rneeds_long a _ (by omega) ha).mono ?_
    rintro e w2 ⟨rfl, rfl⟩
    go_wp2_with fail
    refine (num_any _ _).mono ?_
    rintro e w' ⟨rfl, rfl⟩
    go_wp2_with fail
    refine (weight_long a n _ (by omega) ha).mono ?_
    rintro e w1 ⟨rfl, rfl⟩
    go_wp2_with fail
    refine (rweight_long a n _ (by omega) ha).mono ?_
    rintro e w2 ⟨rfl, rfl⟩
    go_wp2_with (go_at_call 25; refine (num_any _ _).mono ?_; rintro e w' ⟨rfl, rfl⟩)
    go_ret
    exact ⟨rfl, hm0⟩
set_option maxHeartbeats 800000 in
set_option maxRecDepth 100000 in
theorem plays_weigh : Plays 2 2 := by
  intro kd n a b w h1 h2 ha hb hn
  obtain rfl : kd = 2 := by omega
  have hm0 : Mod (fun _ => False) w (w.alloc (.cells #[.int .i64 2, .int .i64 n, .string a, .string b] 32)) := (Mod.refl _ w).alloc _
  clear h1 h2 hb hn
  go_enter Tryz.func18, Tryz.ntmps18
  go_wp2_with fail
  refine (texts_weigh n a b _ ha).mono ?_
  rintro e w1 ⟨rfl, hm1⟩
  go_wp2_with fail
  go_ret
  exact ⟨rfl, hm0.trans hm1⟩
set_option maxHeartbeats 400000 in
theorem weighs_walk (v : Value) (w : World) (hS : Scr w v) : Calls Tryz.prog 4 #[v] w fun e w' => e = .returned (.bool true) ∧ Mod (fun _ => False) w w' := by
  have HS : Hid (Scr w v) := hS
  clear hS
  go_enter Tryz.func4, Tryz.ntmps4
  go_wp2_with fail
  refine (upto_any v 2 2 w HS.out plays_weigh).mono ?_
  rintro e w1 ⟨rfl, hm1⟩
  go_wp2_with fail
  go_ret
  exact ⟨rfl, hm1⟩
end Go.Proofs.YtmnfndpbblpjiaaGreatDoor
