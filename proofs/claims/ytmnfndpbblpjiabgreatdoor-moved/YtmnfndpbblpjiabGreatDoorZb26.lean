/- The document's numbers: Of a small one, and how long one is. -/
import Derived.Test.YtmnfndpbblpjiabGreatDoorZb25
import Derived.Test.YtmnfndpbblpjiabGreatDoorZb05
namespace Go.Proofs.YtmnfndpbblpjiabGreatDoor
open Go.RowKit Pu

theorem Pu.pow4 (m : Nat) : 10000 ^ m = 10 ^ (4 * m) := by rw [show (10000 : Nat) = 10 ^ 4 from rfl, ← Nat.pow_mul]
/-- How many decimal digits: the top one's, and four for each below. -/
theorem Pu.long_iff {l b : List Nat} {t j n : Nat} (hl : l = b ++ [t]) (hd : Dig l) (hj : j = 0 ∨ 10 ^ (j - 1) ≤ t) (hj2 : t < 10 ^ j) (ht : t ≠ 0) : n < 4 * b.length + j ↔ 10 ^ n ≤ val l := by
  subst hl
  have hb : Dig b := fun d h => hd d (List.mem_append_left _ h)
  have h1 := val_lt hb
  rw [val_append]
  simp only [val, Nat.mul_zero, Nat.add_zero]
  rw [pow4] at *
  have hj0 : j ≠ 0 := by intro e; subst e; simp at hj2; omega
  have hlow : 10 ^ (j - 1) ≤ t := by rcases hj with h | h; (· omega); exact h
  constructor
  · intro hn
    have a1 : 10 ^ (4 * b.length) * 10 ^ (j - 1) ≤ 10 ^ (4 * b.length) * t := Nat.mul_le_mul_left _ hlow
    rw [← Nat.pow_add] at a1
    have a2 : 10 ^ n ≤ 10 ^ (4 * b.length + (j - 1)) := Nat.pow_le_pow_right (by omega) (by omega)
    omega
  · intro hv
    by_cases hn : n < 4 * b.length + j
    · exact hn
    · exfalso
      have a1 : 10 ^ (4 * b.length) * (t + 1) ≤ 10 ^ (4 * b.length) * 10 ^ j := Nat.mul_le_mul_left _ hj2
      rw [← Nat.pow_add, Nat.mul_add] at a1
      have a2 : 10 ^ (4 * b.length + j) ≤ 10 ^ n := Nat.pow_le_pow_right (by omega) (by omega)
      omega

set_option maxHeartbeats 800000 in
set_option maxRecDepth 100000 in
theorem long_any (nb : Bool) (v : Value) (l : List Nat) (n : Nat) (w : World) (hN : Nm w nb v l) (hl : l.length ≤ 50000) (_hn : n ≤ 1000000) : Calls Tryz.prog 106 #[nm2 nb v, .int .i64 n] w fun e w' => e = .returned (.bool (decide (10 ^ n ≤ val l))) ∧ Mod (fun _ => False) w w' := by
  obtain ⟨hd, ht, -⟩ := hN.1
  obtain ⟨ao, cap, rfl, -⟩ := owns_form hN.2
  have hO := hN.2
  have hm0 : Mod (fun _ => False) w (w.alloc (.cells #[.bool nb, .slice ao l.length cap] 154)) := (Mod.refl _ w).alloc _
  have hO0 := owns_mod hO hm0 (fun _ _ f => f)
  clear hN hO
  generalize hp : decide (10 ^ n ≤ val l) = pb at *
  have HP : Hid (decide (10 ^ n ≤ val l) = pb) := hp
  clear hp
  by_cases h0 : l = []
  · have HR : Hid (pb = false) := show pb = false by rw [← HP.out, h0]; simp [val]
    have hb : ((l.length : Int) == 0) = true := by subst h0; rfl
    have hlz : l.length = 0 := by rw [h0]; rfl
    have HLZ : l.length ≤ 0 := by omega
    clear h0 hlz
    go_enter Tryz.func106, Tryz.ntmps106
    go_wp2_with fail
    go_ret
    exact ⟨by rw [HR.out]; rfl, hm0⟩
  · obtain ⟨b, t, hbt⟩ : ∃ b t, l = b ++ [t] := ⟨l.dropLast, l.getLast h0, (List.dropLast_concat_getLast h0).symm⟩
    have HBT : Hid (l = b ++ [t]) := hbt
    have hlb : l.length = b.length + 1 := by rw [hbt]; simp
    have HLB : Hid (l.length = b.length + 1) := hlb
    have ht0 : t ≠ 0 := ht t (by rw [hbt]; simp)
    have ht4 : t < 10000 := hd t (by rw [hbt]; simp)
    have hb : ((l.length : Int) == 0) = false := by rw [beq_eq_false_iff_ne]; omega
    have hkl : b.length < l.length := by omega
    obtain ⟨gb, rfl, ct0⟩ := ivs_cell hO0 rfl hkl
    have hlt' : l[b.length] = t := by
      have : l[b.length]? = some t := by rw [hbt]; simp
      rw [List.getElem?_eq_getElem hkl] at this
      injection this
    rw [hlt'] at ct0
    clear hbt hlt' hO0
    rw [hlb] at ct0 hm0 hb ⊢
    have hbl : b.length ≤ 50000 := by omega
    clear hlb hkl hl h0
    go_enter Tryz.func106, Tryz.ntmps106
    go_wp2_with fail
    go_loop [5, 7] (fun kv pv => ∃ (j P : Nat), j ≤ 4 ∧ Hid (P = 10 ^ j) ∧ P ≤ 10000 ∧ kv = .int .i64 (4 * (b.length : Int) + (j : Int)) ∧ pv = .int .i64 P ∧ Hid (j = 0 ∨ 10 ^ (j - 1) ≤ t)) (fun _ pv => 20000 - (intOf pv).toNat)
    case atStart => exact ⟨0, 1, by omega, rfl, by omega, by simp, rfl, .inl rfl⟩
    case round =>
      obtain ⟨j, P, hj, HPJ, hP, rfl, rfl, HJ⟩ := hrel
      have hP1 : 1 ≤ P := by rw [HPJ.out]; exact Nat.pow_pos (by omega)
      by_cases hpt : P ≤ t
      · have hj4 : j < 4 := by
          by_cases e : j < 4
          · exact e
          · have : j = 4 := by omega
            have h2 := HPJ.out
            rw [this] at h2
            omega
        have hP3 : P ≤ 1000 := by
          have : 10 ^ j ≤ 10 ^ 3 := Nat.pow_le_pow_right (by omega) (by omega)
          rw [HPJ.out]; omega
        go_wp2_with fail
        go_round
        case rel => exact ⟨j + 1, 10 * P, by omega, show 10 * P = 10 ^ (j + 1) by rw [HPJ.out, Nat.pow_succ]; omega, by omega, by go_num, by go_num, show j + 1 = 0 ∨ 10 ^ (j + 1 - 1) ≤ t from .inr (by have := HPJ.out; simp; omega)⟩
        case measure => simp [intOf]; omega
      · have HR : Hid (pb = decide ((n : Int) < 4 * (b.length : Int) + (j : Int))) := show pb = decide ((n : Int) < 4 * (b.length : Int) + (j : Int)) by
          rw [← HP.out, Bool.eq_iff_iff, decide_eq_true_eq, decide_eq_true_eq, ← long_iff (n := n) HBT.out hd HJ.out (by rw [← HPJ.out]; omega) ht0]
          omega
        go_wp2_with fail
        go_ret
        exact ⟨by rw [HR.out]; rfl, hm0⟩

theorem Nmb.set1 {w : World} {b : Nat} {nb : Bool} {v : Value} (h : Nmb w b nb v) (u : Value) : Nmb (w.setCell ⟨b, 1, none⟩ u) b nb u := by unfold Nmb at *; simp [World.setCell, Array.getElem?_modify, h]

set_option maxHeartbeats 1600000 in
set_option maxRecDepth 100000 in
theorem of_neg (n : Int) (w : World) (h1 : -10000 < n) (h2 : n < 10000) (hs : n < 0) : Calls Tryz.prog 115 #[.int .i64 n] w (NumEnd w n 1) := by
  obtain ⟨i0, hi, hz0, hz1, hz2⟩ := info_parts Tryz.info3
  have hR := nmb_new w false (.slice none 0 0)
  have hX := nmb_new (w.alloc (.cells #[.bool false, .slice none 0 0] 154)) true (.slice none 0 0)
  have m1 : Mod (fun _ => False) w (w.alloc (.cells #[.bool false, .slice none 0 0] 154)) := (Mod.refl _ w).alloc _
  have m2 : Mod (fun _ => False) (w.alloc (.cells #[.bool false, .slice none 0 0] 154)) ((w.alloc (.cells #[.bool false, .slice none 0 0] 154)).alloc (.cells #[.bool true, .slice none 0 0] 154)) := (Mod.refl _ _).alloc _
  have hR2 := hR.keep m2 (fun f => f)
  have hmW := m1.trans m2
  simp only [World.size_alloc] at hX
  clear hR m1 m2
  have hsb : decide (n < 0) = true := by simp; omega
  go_enter Tryz.func115, Tryz.ntmps115
  go_wp2_with fail
  clear hsb
  generalize (w.alloc (.cells #[.bool false, .slice none 0 0] 154)).alloc (.cells #[.bool true, .slice none 0 0] 154) = W at *
  have hWz := hX.lt
  go_loopw [0] (fun nv wr => ∃ (m : Int) (ds : List Nat) (dv : Value), nv = .int .i64 m ∧ 0 ≤ m ∧ m < 10000 ∧ ds.length ≤ 1 ∧ Nmb wr (w.heap.size + 1) true dv ∧ wr.ownsRow W.heap.size 3 1 dv ds.length (ivs ds) ∧ Nmb wr w.heap.size false (.slice none 0 0) ∧ Mod (fun q => q = w.heap.size + 1) W wr ∧ Hid ((m = -n ∧ ds = []) ∨ (m = 0 ∧ ds = [(-n).toNat] ∧ 0 < -n))) (fun nv _ => (intOf nv).toNat)
  case atStart => exact ⟨-n, [], .slice none 0 0, rfl, by omega, by omega, by simp, hX, World.ownsRow_nil _ _ _ _, hR2, Mod.refl _ _, .inl ⟨rfl, rfl⟩⟩
  case round =>
    clear hX hR2
    obtain ⟨m, ds, dv, rfl, hm0, hm1, hdl, hX, hown, hR, hm, HC⟩ := hrel
    have hsz := hm.size
    have hXl := hX.lt
    have x0 := hX.c0
    have x1 := hX.c1
    have f0 := hX.fz 0
    have f1 := hX.fz 1
    obtain ⟨oo, ocap, rfl, -⟩ := owns_form hown
    by_cases hpos : 0 < m
    · have hc : m = -n ∧ ds = [] := by
        rcases HC.out with h | h
        · exact h
        · omega
      obtain ⟨hmM, rfl⟩ := hc
      have HMM : Hid (m = -n) := hmM
      have HQ : Hid (m % 10000 = ((m.toNat : Nat) : Int)) := show m % 10000 = ((m.toNat : Nat) : Int) by omega
      have HQ2 : Hid (m / 10000 = 0) := show m / 10000 = 0 by omega
      clear hmM
      go_wp2_with (at_builtin; refine wpList_append_own _ rfl _ _ 29 rfl W.heap.size 3 i0 (.int .i64 0) 1 8 Tryz.underlying29 hi hz0 hz1 hz2 rfl (by decide) _ _ _ rfl (hown.alloc _) ⟨wr.heap.size, 0, none⟩ 1 1 [_] rfl rfl (cell_one_new _ _ _) ?c2 ?c3 ?c4 ?c5 ?_)
      case c2 => first | rfl | (intro u hu; simp at hu; subst hu; rfl)
      case c3 => unfold maxLen; simp
      case c5 => first | omega | (simp; omega)
      intro v4 w4 hown4 hgrow _
      have hgm : Mod (fun q => W.heap.size ≤ q) wr w4 := ((Mod.refl _ wr).alloc _).grown hgrow (fun q hq _ => (hown.lt q hq).1)
      have hX4 : Nmb w4 (w.heap.size + 1) true (.slice oo 0 ocap) := hX.keep hgm (by omega)
      have hR4 := hR.keep hgm (by omega)
      have hown5 : w4.ownsRow W.heap.size 3 1 v4 [m.toNat].length (ivs [m.toNat]) := by
        have e : ivs [m.toNat] = [.int .i64 (m % 10000)] := by simp [ivs, HQ.out]
        rw [e]; exact hown4
      have hm5 : Mod (fun q => q = w.heap.size + 1) W w4 := ⟨hgm.os.trans hm.os, hgm.tape.trans hm.tape, hgm.output.trans hm.output, Nat.le_trans hm.size hgm.size, fun k hk hp => (hgm.block k (by omega) (by omega)).trans (hm.block k hk hp)⟩
      obtain ⟨oo4, ocap4, rfl, -⟩ := owns_form hown4
      clear x0 x1 f0 f1
      have x1 := hX4.c1
      have f1 := hX4.fz 1
      have hX6 := hX4.set1 (.slice oo4 (0 + 1) ocap4)
      have hmS : Mod (fun q => q = w.heap.size + 1) w4 (w4.setCell ⟨w.heap.size + 1, 1, none⟩ (.slice oo4 (0 + 1) ocap4)) := (Mod.refl (fun q => q = w.heap.size + 1) w4).setCell _ _ (fun _ => rfl)
      have hR6 := hR4.keep hmS (by omega)
      have hown6 := owns_mod hown5 hmS (fun q hq he => by omega)
      have hm6 := hm5.trans hmS
      clear hgrow hgm hown4 hown5 hX4 hR4 hmS hm5 hown hX hR hm
      go_wp2_with fail
      go_roundw
      case rel => exact ⟨m / 10000, [m.toNat], _, rfl, by omega, by omega, by simp, hX6, hown6, hR6, hm6, .inr ⟨HQ2.out, by rw [HMM.out], by have := HMM.out; omega⟩⟩
      case measure => rw [HQ2.out]; simp [intOf]; omega
    · have HM0 : Hid (m = 0) := show m = 0 by omega
      have hmF0 : Mod (fun _ => False) w wr := ((hmW.mono (q := fun q => q = w.heap.size + 1) (fun _ _ f => f.elim)).trans hm).mono (fun q hq h => by omega)
      have r0 := hR.c0
      have r1 := hR.c1
      have g0 := hR.fz 0
      have g1 := hR.fz 1
      have hR5 := hR.set true (.slice oo ds.length ocap)
      have q0 := hR5.c0
      have q1 := hR5.c1
      have hmF : Mod (fun _ => False) w ((wr.setCell ⟨w.heap.size, 0, none⟩ (.bool true)).setCell ⟨w.heap.size, 1, none⟩ (.slice oo ds.length ocap)) := ((hmF0.mono (q := fun q => q = w.heap.size) (fun _ _ f => f.elim)).trans (mod_set2 _ _ _ _)).mono (fun i hi h => by omega)
      have HNE : Hid (NumEnd w n 1 (.returned (nm2 true (.slice oo ds.length ocap))) ((wr.setCell ⟨w.heap.size, 0, none⟩ (.bool true)).setCell ⟨w.heap.size, 1, none⟩ (.slice oo ds.length ocap))) := by
        refine numEnd (l := ds) hmF ⟨?_, owns_set2 (owns_base hown (Nat.zero_le _)) hR _ _⟩ ?_ hdl
        · rcases HC.out with ⟨h, rfl⟩ | ⟨_, rfl, hp⟩
          · have := HM0.out; omega
          · exact ⟨fun d hd => by simp at hd; omega, fun d hd => by simp at hd; omega, fun e => by cases e⟩
        · rcases HC.out with ⟨h, rfl⟩ | ⟨_, rfl, hp⟩
          · have := HM0.out; omega
          · simp [num, val]; omega
      clear hown hm hX hmF0
      go_wp2_with fail
      exact bodyPost_ret (by simp [results, Tryz.results115, go_sem, q0, q1]) rfl HNE.out

set_option maxHeartbeats 1600000 in
set_option maxRecDepth 100000 in
theorem of_pos (n : Int) (w : World) (h1 : -10000 < n) (h2 : n < 10000) (hs : 0 ≤ n) : Calls Tryz.prog 115 #[.int .i64 n] w (NumEnd w n 1) := by
  obtain ⟨i0, hi, hz0, hz1, hz2⟩ := info_parts Tryz.info3
  have hR := nmb_new w false (.slice none 0 0)
  have hX := nmb_new (w.alloc (.cells #[.bool false, .slice none 0 0] 154)) false (.slice none 0 0)
  have m1 : Mod (fun _ => False) w (w.alloc (.cells #[.bool false, .slice none 0 0] 154)) := (Mod.refl _ w).alloc _
  have m2 : Mod (fun _ => False) (w.alloc (.cells #[.bool false, .slice none 0 0] 154)) ((w.alloc (.cells #[.bool false, .slice none 0 0] 154)).alloc (.cells #[.bool false, .slice none 0 0] 154)) := (Mod.refl _ _).alloc _
  have hR2 := hR.keep m2 (fun f => f)
  have hmW := m1.trans m2
  simp only [World.size_alloc] at hX
  clear hR m1 m2
  have hsb : decide (n < 0) = false := by simp; omega
  go_enter Tryz.func115, Tryz.ntmps115
  go_wp2_with fail
  clear hsb
  generalize (w.alloc (.cells #[.bool false, .slice none 0 0] 154)).alloc (.cells #[.bool false, .slice none 0 0] 154) = W at *
  have hWz := hX.lt
  go_loopw [0] (fun nv wr => ∃ (m : Int) (ds : List Nat) (dv : Value), nv = .int .i64 m ∧ 0 ≤ m ∧ m < 10000 ∧ ds.length ≤ 1 ∧ Nmb wr (w.heap.size + 1) false dv ∧ wr.ownsRow W.heap.size 3 1 dv ds.length (ivs ds) ∧ Nmb wr w.heap.size false (.slice none 0 0) ∧ Mod (fun q => q = w.heap.size + 1) W wr ∧ Hid ((m = n ∧ ds = []) ∨ (m = 0 ∧ ds = [(n).toNat] ∧ 0 < n))) (fun nv _ => (intOf nv).toNat)
  case atStart => exact ⟨n, [], .slice none 0 0, rfl, by omega, by omega, by simp, hX, World.ownsRow_nil _ _ _ _, hR2, Mod.refl _ _, .inl ⟨rfl, rfl⟩⟩
  case round =>
    clear hX hR2
    obtain ⟨m, ds, dv, rfl, hm0, hm1, hdl, hX, hown, hR, hm, HC⟩ := hrel
    have hsz := hm.size
    have hXl := hX.lt
    have x0 := hX.c0
    have x1 := hX.c1
    have f0 := hX.fz 0
    have f1 := hX.fz 1
    obtain ⟨oo, ocap, rfl, -⟩ := owns_form hown
    by_cases hpos : 0 < m
    · have hc : m = n ∧ ds = [] := by
        rcases HC.out with h | h
        · exact h
        · omega
      obtain ⟨hmM, rfl⟩ := hc
      have HMM : Hid (m = n) := hmM
      have HQ : Hid (m % 10000 = ((m.toNat : Nat) : Int)) := show m % 10000 = ((m.toNat : Nat) : Int) by omega
      have HQ2 : Hid (m / 10000 = 0) := show m / 10000 = 0 by omega
      clear hmM
      go_wp2_with (at_builtin; refine wpList_append_own _ rfl _ _ 29 rfl W.heap.size 3 i0 (.int .i64 0) 1 8 Tryz.underlying29 hi hz0 hz1 hz2 rfl (by decide) _ _ _ rfl (hown.alloc _) ⟨wr.heap.size, 0, none⟩ 1 1 [_] rfl rfl (cell_one_new _ _ _) ?c2 ?c3 ?c4 ?c5 ?_)
      case c2 => first | rfl | (intro u hu; simp at hu; subst hu; rfl)
      case c3 => unfold maxLen; simp
      case c5 => first | omega | (simp; omega)
      intro v4 w4 hown4 hgrow _
      have hgm : Mod (fun q => W.heap.size ≤ q) wr w4 := ((Mod.refl _ wr).alloc _).grown hgrow (fun q hq _ => (hown.lt q hq).1)
      have hX4 : Nmb w4 (w.heap.size + 1) false (.slice oo 0 ocap) := hX.keep hgm (by omega)
      have hR4 := hR.keep hgm (by omega)
      have hown5 : w4.ownsRow W.heap.size 3 1 v4 [m.toNat].length (ivs [m.toNat]) := by
        have e : ivs [m.toNat] = [.int .i64 (m % 10000)] := by simp [ivs, HQ.out]
        rw [e]; exact hown4
      have hm5 : Mod (fun q => q = w.heap.size + 1) W w4 := ⟨hgm.os.trans hm.os, hgm.tape.trans hm.tape, hgm.output.trans hm.output, Nat.le_trans hm.size hgm.size, fun k hk hp => (hgm.block k (by omega) (by omega)).trans (hm.block k hk hp)⟩
      obtain ⟨oo4, ocap4, rfl, -⟩ := owns_form hown4
      clear x0 x1 f0 f1
      have x1 := hX4.c1
      have f1 := hX4.fz 1
      have hX6 := hX4.set1 (.slice oo4 (0 + 1) ocap4)
      have hmS : Mod (fun q => q = w.heap.size + 1) w4 (w4.setCell ⟨w.heap.size + 1, 1, none⟩ (.slice oo4 (0 + 1) ocap4)) := (Mod.refl (fun q => q = w.heap.size + 1) w4).setCell _ _ (fun _ => rfl)
      have hR6 := hR4.keep hmS (by omega)
      have hown6 := owns_mod hown5 hmS (fun q hq he => by omega)
      have hm6 := hm5.trans hmS
      clear hgrow hgm hown4 hown5 hX4 hR4 hmS hm5 hown hX hR hm
      go_wp2_with fail
      go_roundw
      case rel => exact ⟨m / 10000, [m.toNat], _, rfl, by omega, by omega, by simp, hX6, hown6, hR6, hm6, .inr ⟨HQ2.out, by rw [HMM.out], by have := HMM.out; omega⟩⟩
      case measure => rw [HQ2.out]; simp [intOf]; omega
    · have HM0 : Hid (m = 0) := show m = 0 by omega
      have hmF0 : Mod (fun _ => False) w wr := ((hmW.mono (q := fun q => q = w.heap.size + 1) (fun _ _ f => f.elim)).trans hm).mono (fun q hq h => by omega)
      have r0 := hR.c0
      have r1 := hR.c1
      have g0 := hR.fz 0
      have g1 := hR.fz 1
      have hR5 := hR.set false (.slice oo ds.length ocap)
      have q0 := hR5.c0
      have q1 := hR5.c1
      have hmF : Mod (fun _ => False) w ((wr.setCell ⟨w.heap.size, 0, none⟩ (.bool false)).setCell ⟨w.heap.size, 1, none⟩ (.slice oo ds.length ocap)) := ((hmF0.mono (q := fun q => q = w.heap.size) (fun _ _ f => f.elim)).trans (mod_set2 _ _ _ _)).mono (fun i hi h => by omega)
      have HNE : Hid (NumEnd w n 1 (.returned (nm2 false (.slice oo ds.length ocap))) ((wr.setCell ⟨w.heap.size, 0, none⟩ (.bool false)).setCell ⟨w.heap.size, 1, none⟩ (.slice oo ds.length ocap))) := by
        refine numEnd (l := ds) hmF ⟨?_, owns_set2 (owns_base hown (Nat.zero_le _)) hR _ _⟩ ?_ hdl
        · rcases HC.out with ⟨h, rfl⟩ | ⟨_, rfl, hp⟩
          · exact ⟨fun d hd => by simp at hd, fun d hd => by simp at hd, fun _ => rfl⟩
          · exact ⟨fun d hd => by simp at hd; omega, fun d hd => by simp at hd; omega, fun e => by cases e⟩
        · rcases HC.out with ⟨h, rfl⟩ | ⟨_, rfl, hp⟩
          · have := HM0.out; simp [num, val]; omega
          · simp [num, val]; omega
      clear hown hm hX hmF0
      go_wp2_with fail
      exact bodyPost_ret (by simp [results, Tryz.results115, go_sem, q0, q1]) rfl HNE.out

theorem of_any (n : Int) (w : World) (h1 : -10000 < n) (h2 : n < 10000) : Calls Tryz.prog 115 #[.int .i64 n] w (NumEnd w n 1) := by
  by_cases h : n < 0
  · exact of_neg n w h1 h2 h
  · exact of_pos n w h1 h2 (by omega)
end Go.Proofs.YtmnfndpbblpjiabGreatDoor

/- The document's value: the sums, differences and products of registers. -/
namespace Go.Proofs.YtmnfndpbblpjiabGreatDoor
open Go.RowKit Pu

set_option maxHeartbeats 1600000 in
set_option maxRecDepth 100000 in
theorem value_add (t : Stp) (gr rn rcap : Nat) (iv : Value) (nx ny : Bool) (u v : Value) (a b : List Nat) (w : World) (hs : Small t) (hop : t.op = 2) (hy : t.y < rn) (hz : t.z < rn) (_hrn : rn ≤ 128) (hgr : gr < w.heap.size)
    (cy0 : w.cell? ⟨gr, t.y * 2, none⟩ = some (.bool nx)) (cy1 : w.cell? ⟨gr, t.y * 2 + 1, none⟩ = some u) (cz0 : w.cell? ⟨gr, t.z * 2, none⟩ = some (.bool ny)) (cz1 : w.cell? ⟨gr, t.z * 2 + 1, none⟩ = some v)
    (hU : Nm w nx u a) (hV : Nm w ny v b) (la : a.length ≤ 50000) (lb : b.length ≤ 50000) :
    Calls Tryz.prog 105 #[st4 t, .slice (some ⟨gr, 0, none⟩) rn rcap, iv] w (NumEnd w (num nx a + num ny b) (max a.length b.length + 4)) := by
  obtain ⟨ao, acap, rfl, -⟩ := owns_form hU.2
  obtain ⟨bo, bcap, rfl, -⟩ := owns_form hV.2
  obtain ⟨s0, s1, s2, s3⟩ := hs
  have hS := stb_new w t
  have hR := nmb_new (w.alloc (.cells #[.int .i64 t.op, .int .i64 t.x, .int .i64 t.y, .int .i64 t.z] 152)) false (.slice none 0 0)
  have m1 : Mod (fun _ => False) w (w.alloc (.cells #[.int .i64 t.op, .int .i64 t.x, .int .i64 t.y, .int .i64 t.z] 152)) := (Mod.refl _ w).alloc _
  have m2 : Mod (fun _ => False) (w.alloc (.cells #[.int .i64 t.op, .int .i64 t.x, .int .i64 t.y, .int .i64 t.z] 152)) ((w.alloc (.cells #[.int .i64 t.op, .int .i64 t.x, .int .i64 t.y, .int .i64 t.z] 152)).alloc (.cells #[.bool false, .slice none 0 0] 154)) := (Mod.refl _ _).alloc _
  have hS2 : Stb ((w.alloc (.cells #[.int .i64 t.op, .int .i64 t.x, .int .i64 t.y, .int .i64 t.z] 152)).alloc (.cells #[.bool false, .slice none 0 0] 154)) w.heap.size t := m2.keep hS (fun f => f)
  have hmW := m1.trans m2
  have hU3 := hU.mod hmW
  have hV3 := hV.mod hmW
  have d0 := hmW.cell cy0
  have d1 := hmW.cell cy1
  have d2 := hmW.cell cz0
  have d3 := hmW.cell cz1
  simp only [World.size_alloc] at hR
  have o0 : ((t.op : Int) == 0) = false := beq_f (m := 0) (by omega)
  have o1 : ((t.op : Int) == 1) = false := beq_f (m := 1) (by omega)
  have o2 : ((t.op : Int) == 2) = true := beq_t (m := 2) (by omega)
  have o3 : ((t.op : Int) == 3) = false := beq_f (m := 3) (by omega)
  have o4 : ((t.op : Int) == 4) = false := beq_f (m := 4) (by omega)
  have e0 := hS2.c0
  have e2 := hS2.c2
  have e3 := hS2.c3
  have i1 : (0 : Int) ≤ (t.y : Int) := by omega
  have i2 : (t.y : Int) < (rn : Int) := by omega
  have i3 : (0 : Int) ≤ (t.z : Int) := by omega
  have i4 : (t.z : Int) < (rn : Int) := by omega
  clear hS m1 m2 hU hV cy0 cy1 cz0 cz1 hop
  go_enter Tryz.func105, Tryz.ntmps105
  go_wp2_with fail
  generalize (w.alloc (.cells #[.int .i64 t.op, .int .i64 t.x, .int .i64 t.y, .int .i64 t.z] 152)).alloc (.cells #[.bool false, .slice none 0 0] 154) = W at *
  have hRd : Nmb W.drew (w.heap.size + 1) false (.slice none 0 0) := hR
  have hmWd : Mod (fun _ => False) W W.drew := (Mod.refl _ W).drew
  have HU : Hid (Nm W.drew nx (.slice ao a.length acap) a) := hU3.mod hmWd
  have HV : Hid (Nm W.drew ny (.slice bo b.length bcap) b) := hV3.mod hmWd
  clear hU3 hV3
  go_region_held3 (fun w' => w'.cell? ⟨w.heap.size, 2, none⟩ = some (.int .i64 t.y) ∧ w'.cell? ⟨w.heap.size, 3, none⟩ = some (.int .i64 t.z) ∧ w'.cell? ⟨gr, t.y * 2, none⟩ = some (.bool nx) ∧ w'.cell? ⟨gr, t.y * 2 + 1, none⟩ = some (.slice ao a.length acap) ∧ w'.cell? ⟨gr, t.z * 2, none⟩ = some (.bool ny) ∧ w'.cell? ⟨gr, t.z * 2 + 1, none⟩ = some (.slice bo b.length bcap))
    (first | go_keep | (exact hkeep) | (exact hkeep2))
    ((go_at_call 151; refine (plus_any nx ny (.slice ao a.length acap) (.slice bo b.length bcap) a b W.drew HU.out HV.out (by omega) (by omega)).mono ?_; rintro e w4 ⟨hm4, nb, v4, l4, rfl, hN4, hx4, hl4⟩; have hR4 := hRd.keep hm4 (fun f => f); have r0 := hR4.c0; have r1 := hR4.c1; have f0 := hR4.fz 0; have f1 := hR4.fz 1; obtain ⟨vo4, vcap4, rfl, -⟩ := owns_form hN4.2; have hkeep := And.intro (hm4.cell (a := W.drew) e2) (And.intro (hm4.cell (a := W.drew) e3) (And.intro (hm4.cell (a := W.drew) d0) (And.intro (hm4.cell (a := W.drew) d1) (And.intro (hm4.cell (a := W.drew) d2) (hm4.cell (a := W.drew) d3))))); have hkeep2 := And.intro ((set2_cell (w.heap.size + 1) w4 (.bool nb) (.slice vo4 l4.length vcap4) w.heap.size 2 (by omega)).trans hkeep.1) (And.intro ((set2_cell (w.heap.size + 1) w4 (.bool nb) (.slice vo4 l4.length vcap4) w.heap.size 3 (by omega)).trans hkeep.2.1) (And.intro ((set2_cell (w.heap.size + 1) w4 (.bool nb) (.slice vo4 l4.length vcap4) gr (t.y * 2) (by omega)).trans hkeep.2.2.1) (And.intro ((set2_cell (w.heap.size + 1) w4 (.bool nb) (.slice vo4 l4.length vcap4) gr (t.y * 2 + 1) (by omega)).trans hkeep.2.2.2.1) (And.intro ((set2_cell (w.heap.size + 1) w4 (.bool nb) (.slice vo4 l4.length vcap4) gr (t.z * 2) (by omega)).trans hkeep.2.2.2.2.1) ((set2_cell (w.heap.size + 1) w4 (.bool nb) (.slice vo4 l4.length vcap4) gr (t.z * 2 + 1) (by omega)).trans hkeep.2.2.2.2.2)))))))
  have hR5 := hR4.set nb (.slice vo4 l4.length vcap4)
  have q0 := hR5.c0
  have q1 := hR5.c1
  have hmE := hmW.drew.trans hm4
  have hmF : Mod (fun _ => False) w ((w4.setCell ⟨w.heap.size + 1, 0, none⟩ (.bool nb)).setCell ⟨w.heap.size + 1, 1, none⟩ (.slice vo4 l4.length vcap4)) := ((hmE.mono (q := fun i => i = w.heap.size + 1) (fun _ _ f => f.elim)).trans (mod_set2 _ _ _ _)).mono (fun i hi h => by omega)
  have HNE : Hid (NumEnd w (num nx a + num ny b) (max a.length b.length + 4) (.returned (nm2 nb (.slice vo4 l4.length vcap4))) ((w4.setCell ⟨w.heap.size + 1, 0, none⟩ (.bool nb)).setCell ⟨w.heap.size + 1, 1, none⟩ (.slice vo4 l4.length vcap4))) :=
    numEnd (l := l4) hmF ⟨hN4.1, owns_set2 hN4.2 hR4 _ _⟩ hx4 (by omega)
  clear hN4 hx4 hmE hm4
  go_wp2_with fail
  exact bodyPost_ret (by simp [results, Tryz.results105, go_sem, q0, q1]) rfl HNE.out

set_option maxHeartbeats 1600000 in
set_option maxRecDepth 100000 in
theorem value_sub (t : Stp) (gr rn rcap : Nat) (iv : Value) (nx ny : Bool) (u v : Value) (a b : List Nat) (w : World) (hs : Small t) (hop : t.op = 3) (hy : t.y < rn) (hz : t.z < rn) (_hrn : rn ≤ 128) (hgr : gr < w.heap.size)
    (cy0 : w.cell? ⟨gr, t.y * 2, none⟩ = some (.bool nx)) (cy1 : w.cell? ⟨gr, t.y * 2 + 1, none⟩ = some u) (cz0 : w.cell? ⟨gr, t.z * 2, none⟩ = some (.bool ny)) (cz1 : w.cell? ⟨gr, t.z * 2 + 1, none⟩ = some v)
    (hU : Nm w nx u a) (hV : Nm w ny v b) (la : a.length ≤ 50000) (lb : b.length ≤ 50000) :
    Calls Tryz.prog 105 #[st4 t, .slice (some ⟨gr, 0, none⟩) rn rcap, iv] w (NumEnd w (num nx a - num ny b) (max a.length b.length + 4)) := by
  obtain ⟨ao, acap, rfl, -⟩ := owns_form hU.2
  obtain ⟨bo, bcap, rfl, -⟩ := owns_form hV.2
  obtain ⟨s0, s1, s2, s3⟩ := hs
  have hS := stb_new w t
  have hR := nmb_new (w.alloc (.cells #[.int .i64 t.op, .int .i64 t.x, .int .i64 t.y, .int .i64 t.z] 152)) false (.slice none 0 0)
  have m1 : Mod (fun _ => False) w (w.alloc (.cells #[.int .i64 t.op, .int .i64 t.x, .int .i64 t.y, .int .i64 t.z] 152)) := (Mod.refl _ w).alloc _
  have m2 : Mod (fun _ => False) (w.alloc (.cells #[.int .i64 t.op, .int .i64 t.x, .int .i64 t.y, .int .i64 t.z] 152)) ((w.alloc (.cells #[.int .i64 t.op, .int .i64 t.x, .int .i64 t.y, .int .i64 t.z] 152)).alloc (.cells #[.bool false, .slice none 0 0] 154)) := (Mod.refl _ _).alloc _
  have hS2 : Stb ((w.alloc (.cells #[.int .i64 t.op, .int .i64 t.x, .int .i64 t.y, .int .i64 t.z] 152)).alloc (.cells #[.bool false, .slice none 0 0] 154)) w.heap.size t := m2.keep hS (fun f => f)
  have hmW := m1.trans m2
  have hU3 := hU.mod hmW
  have hV3 := hV.mod hmW
  have d0 := hmW.cell cy0
  have d1 := hmW.cell cy1
  have d2 := hmW.cell cz0
  have d3 := hmW.cell cz1
  simp only [World.size_alloc] at hR
  have o0 : ((t.op : Int) == 0) = false := beq_f (m := 0) (by omega)
  have o1 : ((t.op : Int) == 1) = false := beq_f (m := 1) (by omega)
  have o2 : ((t.op : Int) == 2) = false := beq_f (m := 2) (by omega)
  have o3 : ((t.op : Int) == 3) = true := beq_t (m := 3) (by omega)
  have o4 : ((t.op : Int) == 4) = false := beq_f (m := 4) (by omega)
  have e0 := hS2.c0
  have e2 := hS2.c2
  have e3 := hS2.c3
  have i1 : (0 : Int) ≤ (t.y : Int) := by omega
  have i2 : (t.y : Int) < (rn : Int) := by omega
  have i3 : (0 : Int) ≤ (t.z : Int) := by omega
  have i4 : (t.z : Int) < (rn : Int) := by omega
  clear hS m1 m2 hU hV cy0 cy1 cz0 cz1 hop
  go_enter Tryz.func105, Tryz.ntmps105
  go_wp2_with fail
  generalize (w.alloc (.cells #[.int .i64 t.op, .int .i64 t.x, .int .i64 t.y, .int .i64 t.z] 152)).alloc (.cells #[.bool false, .slice none 0 0] 154) = W at *
  have hRd : Nmb W.drew (w.heap.size + 1) false (.slice none 0 0) := hR
  have hmWd : Mod (fun _ => False) W W.drew := (Mod.refl _ W).drew
  have HU : Hid (Nm W.drew nx (.slice ao a.length acap) a) := hU3.mod hmWd
  have HV : Hid (Nm W.drew ny (.slice bo b.length bcap) b) := hV3.mod hmWd
  clear hU3 hV3
  go_region_held3 (fun w' => w'.cell? ⟨w.heap.size, 2, none⟩ = some (.int .i64 t.y) ∧ w'.cell? ⟨w.heap.size, 3, none⟩ = some (.int .i64 t.z) ∧ w'.cell? ⟨gr, t.y * 2, none⟩ = some (.bool nx) ∧ w'.cell? ⟨gr, t.y * 2 + 1, none⟩ = some (.slice ao a.length acap) ∧ w'.cell? ⟨gr, t.z * 2, none⟩ = some (.bool ny) ∧ w'.cell? ⟨gr, t.z * 2 + 1, none⟩ = some (.slice bo b.length bcap))
    (first | go_keep | (exact hkeep) | (exact hkeep2))
    ((go_at_call 152; refine (minus_any nx ny (.slice ao a.length acap) (.slice bo b.length bcap) a b W.drew HU.out HV.out (by omega) (by omega)).mono ?_; rintro e w4 ⟨hm4, nb, v4, l4, rfl, hN4, hx4, hl4⟩; have hR4 := hRd.keep hm4 (fun f => f); have r0 := hR4.c0; have r1 := hR4.c1; have f0 := hR4.fz 0; have f1 := hR4.fz 1; obtain ⟨vo4, vcap4, rfl, -⟩ := owns_form hN4.2; have hkeep := And.intro (hm4.cell (a := W.drew) e2) (And.intro (hm4.cell (a := W.drew) e3) (And.intro (hm4.cell (a := W.drew) d0) (And.intro (hm4.cell (a := W.drew) d1) (And.intro (hm4.cell (a := W.drew) d2) (hm4.cell (a := W.drew) d3))))); have hkeep2 := And.intro ((set2_cell (w.heap.size + 1) w4 (.bool nb) (.slice vo4 l4.length vcap4) w.heap.size 2 (by omega)).trans hkeep.1) (And.intro ((set2_cell (w.heap.size + 1) w4 (.bool nb) (.slice vo4 l4.length vcap4) w.heap.size 3 (by omega)).trans hkeep.2.1) (And.intro ((set2_cell (w.heap.size + 1) w4 (.bool nb) (.slice vo4 l4.length vcap4) gr (t.y * 2) (by omega)).trans hkeep.2.2.1) (And.intro ((set2_cell (w.heap.size + 1) w4 (.bool nb) (.slice vo4 l4.length vcap4) gr (t.y * 2 + 1) (by omega)).trans hkeep.2.2.2.1) (And.intro ((set2_cell (w.heap.size + 1) w4 (.bool nb) (.slice vo4 l4.length vcap4) gr (t.z * 2) (by omega)).trans hkeep.2.2.2.2.1) ((set2_cell (w.heap.size + 1) w4 (.bool nb) (.slice vo4 l4.length vcap4) gr (t.z * 2 + 1) (by omega)).trans hkeep.2.2.2.2.2)))))))
  have hR5 := hR4.set nb (.slice vo4 l4.length vcap4)
  have q0 := hR5.c0
  have q1 := hR5.c1
  have hmE := hmW.drew.trans hm4
  have hmF : Mod (fun _ => False) w ((w4.setCell ⟨w.heap.size + 1, 0, none⟩ (.bool nb)).setCell ⟨w.heap.size + 1, 1, none⟩ (.slice vo4 l4.length vcap4)) := ((hmE.mono (q := fun i => i = w.heap.size + 1) (fun _ _ f => f.elim)).trans (mod_set2 _ _ _ _)).mono (fun i hi h => by omega)
  have HNE : Hid (NumEnd w (num nx a - num ny b) (max a.length b.length + 4) (.returned (nm2 nb (.slice vo4 l4.length vcap4))) ((w4.setCell ⟨w.heap.size + 1, 0, none⟩ (.bool nb)).setCell ⟨w.heap.size + 1, 1, none⟩ (.slice vo4 l4.length vcap4))) :=
    numEnd (l := l4) hmF ⟨hN4.1, owns_set2 hN4.2 hR4 _ _⟩ hx4 (by omega)
  clear hN4 hx4 hmE hm4
  go_wp2_with fail
  exact bodyPost_ret (by simp [results, Tryz.results105, go_sem, q0, q1]) rfl HNE.out

set_option maxHeartbeats 1600000 in
set_option maxRecDepth 100000 in
theorem value_mul (t : Stp) (gr rn rcap : Nat) (iv : Value) (nx ny : Bool) (u v : Value) (a b : List Nat) (w : World) (hs : Small t) (hop : t.op = 4) (hy : t.y < rn) (hz : t.z < rn) (_hrn : rn ≤ 128) (hgr : gr < w.heap.size)
    (cy0 : w.cell? ⟨gr, t.y * 2, none⟩ = some (.bool nx)) (cy1 : w.cell? ⟨gr, t.y * 2 + 1, none⟩ = some u) (cz0 : w.cell? ⟨gr, t.z * 2, none⟩ = some (.bool ny)) (cz1 : w.cell? ⟨gr, t.z * 2 + 1, none⟩ = some v)
    (hU : Nm w nx u a) (hV : Nm w ny v b) (la : a.length ≤ 4000) (lb : b.length ≤ 4000) :
    Calls Tryz.prog 105 #[st4 t, .slice (some ⟨gr, 0, none⟩) rn rcap, iv] w (NumEnd w (num nx a * num ny b) (a.length + b.length + 4)) := by
  obtain ⟨ao, acap, rfl, -⟩ := owns_form hU.2
  obtain ⟨bo, bcap, rfl, -⟩ := owns_form hV.2
  obtain ⟨s0, s1, s2, s3⟩ := hs
  have hS := stb_new w t
  have hR := nmb_new (w.alloc (.cells #[.int .i64 t.op, .int .i64 t.x, .int .i64 t.y, .int .i64 t.z] 152)) false (.slice none 0 0)
  have m1 : Mod (fun _ => False) w (w.alloc (.cells #[.int .i64 t.op, .int .i64 t.x, .int .i64 t.y, .int .i64 t.z] 152)) := (Mod.refl _ w).alloc _
  have m2 : Mod (fun _ => False) (w.alloc (.cells #[.int .i64 t.op, .int .i64 t.x, .int .i64 t.y, .int .i64 t.z] 152)) ((w.alloc (.cells #[.int .i64 t.op, .int .i64 t.x, .int .i64 t.y, .int .i64 t.z] 152)).alloc (.cells #[.bool false, .slice none 0 0] 154)) := (Mod.refl _ _).alloc _
  have hS2 : Stb ((w.alloc (.cells #[.int .i64 t.op, .int .i64 t.x, .int .i64 t.y, .int .i64 t.z] 152)).alloc (.cells #[.bool false, .slice none 0 0] 154)) w.heap.size t := m2.keep hS (fun f => f)
  have hmW := m1.trans m2
  have hU3 := hU.mod hmW
  have hV3 := hV.mod hmW
  have d0 := hmW.cell cy0
  have d1 := hmW.cell cy1
  have d2 := hmW.cell cz0
  have d3 := hmW.cell cz1
  simp only [World.size_alloc] at hR
  have o0 : ((t.op : Int) == 0) = false := beq_f (m := 0) (by omega)
  have o1 : ((t.op : Int) == 1) = false := beq_f (m := 1) (by omega)
  have o2 : ((t.op : Int) == 2) = false := beq_f (m := 2) (by omega)
  have o3 : ((t.op : Int) == 3) = false := beq_f (m := 3) (by omega)
  have o4 : ((t.op : Int) == 4) = true := beq_t (m := 4) (by omega)
  have e0 := hS2.c0
  have e2 := hS2.c2
  have e3 := hS2.c3
  have i1 : (0 : Int) ≤ (t.y : Int) := by omega
  have i2 : (t.y : Int) < (rn : Int) := by omega
  have i3 : (0 : Int) ≤ (t.z : Int) := by omega
  have i4 : (t.z : Int) < (rn : Int) := by omega
  clear hS m1 m2 hU hV cy0 cy1 cz0 cz1 hop
  go_enter Tryz.func105, Tryz.ntmps105
  go_wp2_with fail
  generalize (w.alloc (.cells #[.int .i64 t.op, .int .i64 t.x, .int .i64 t.y, .int .i64 t.z] 152)).alloc (.cells #[.bool false, .slice none 0 0] 154) = W at *
  have hRd : Nmb W.drew (w.heap.size + 1) false (.slice none 0 0) := hR
  have hmWd : Mod (fun _ => False) W W.drew := (Mod.refl _ W).drew
  have HU : Hid (Nm W.drew nx (.slice ao a.length acap) a) := hU3.mod hmWd
  have HV : Hid (Nm W.drew ny (.slice bo b.length bcap) b) := hV3.mod hmWd
  clear hU3 hV3
  go_region_held3 (fun w' => w'.cell? ⟨w.heap.size, 2, none⟩ = some (.int .i64 t.y) ∧ w'.cell? ⟨w.heap.size, 3, none⟩ = some (.int .i64 t.z) ∧ w'.cell? ⟨gr, t.y * 2, none⟩ = some (.bool nx) ∧ w'.cell? ⟨gr, t.y * 2 + 1, none⟩ = some (.slice ao a.length acap) ∧ w'.cell? ⟨gr, t.z * 2, none⟩ = some (.bool ny) ∧ w'.cell? ⟨gr, t.z * 2 + 1, none⟩ = some (.slice bo b.length bcap))
    (first | go_keep | (exact hkeep) | (exact hkeep2))
    ((go_at_call 153; refine (times_any nx ny (.slice ao a.length acap) (.slice bo b.length bcap) a b W.drew HU.out HV.out (by omega) (by omega)).mono ?_; rintro e w4 ⟨hm4, nb, v4, l4, rfl, hN4, hx4, hl4⟩; have hR4 := hRd.keep hm4 (fun f => f); have r0 := hR4.c0; have r1 := hR4.c1; have f0 := hR4.fz 0; have f1 := hR4.fz 1; obtain ⟨vo4, vcap4, rfl, -⟩ := owns_form hN4.2; have hkeep := And.intro (hm4.cell (a := W.drew) e2) (And.intro (hm4.cell (a := W.drew) e3) (And.intro (hm4.cell (a := W.drew) d0) (And.intro (hm4.cell (a := W.drew) d1) (And.intro (hm4.cell (a := W.drew) d2) (hm4.cell (a := W.drew) d3))))); have hkeep2 := And.intro ((set2_cell (w.heap.size + 1) w4 (.bool nb) (.slice vo4 l4.length vcap4) w.heap.size 2 (by omega)).trans hkeep.1) (And.intro ((set2_cell (w.heap.size + 1) w4 (.bool nb) (.slice vo4 l4.length vcap4) w.heap.size 3 (by omega)).trans hkeep.2.1) (And.intro ((set2_cell (w.heap.size + 1) w4 (.bool nb) (.slice vo4 l4.length vcap4) gr (t.y * 2) (by omega)).trans hkeep.2.2.1) (And.intro ((set2_cell (w.heap.size + 1) w4 (.bool nb) (.slice vo4 l4.length vcap4) gr (t.y * 2 + 1) (by omega)).trans hkeep.2.2.2.1) (And.intro ((set2_cell (w.heap.size + 1) w4 (.bool nb) (.slice vo4 l4.length vcap4) gr (t.z * 2) (by omega)).trans hkeep.2.2.2.2.1) ((set2_cell (w.heap.size + 1) w4 (.bool nb) (.slice vo4 l4.length vcap4) gr (t.z * 2 + 1) (by omega)).trans hkeep.2.2.2.2.2)))))))
  have hR5 := hR4.set nb (.slice vo4 l4.length vcap4)
  have q0 := hR5.c0
  have q1 := hR5.c1
  have hmE := hmW.drew.trans hm4
  have hmF : Mod (fun _ => False) w ((w4.setCell ⟨w.heap.size + 1, 0, none⟩ (.bool nb)).setCell ⟨w.heap.size + 1, 1, none⟩ (.slice vo4 l4.length vcap4)) := ((hmE.mono (q := fun i => i = w.heap.size + 1) (fun _ _ f => f.elim)).trans (mod_set2 _ _ _ _)).mono (fun i hi h => by omega)
  have HNE : Hid (NumEnd w (num nx a * num ny b) (a.length + b.length + 4) (.returned (nm2 nb (.slice vo4 l4.length vcap4))) ((w4.setCell ⟨w.heap.size + 1, 0, none⟩ (.bool nb)).setCell ⟨w.heap.size + 1, 1, none⟩ (.slice vo4 l4.length vcap4))) :=
    numEnd (l := l4) hmF ⟨hN4.1, owns_set2 hN4.2 hR4 _ _⟩ hx4 (by omega)
  clear hN4 hx4 hmE hm4
  go_wp2_with fail
  exact bodyPost_ret (by simp [results, Tryz.results105, go_sem, q0, q1]) rfl HNE.out

end Go.Proofs.YtmnfndpbblpjiabGreatDoor
