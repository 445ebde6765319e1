/- The document's numbers: Of a small one, and how long one is. -/
import Derived.Test.YtmnfndpbblpjiaaGreatDoorZa17
import Derived.Test.YtmnfndpbblpjiaaGreatDoorZa02
import Derived.Test.YtmnfndpbblpjiaaGreatDoorZa12
import Derived.Test.YtmnfndpbblpjiaaGreatDoorZa16
namespace Go.Proofs.YtmnfndpbblpjiaaGreatDoor
open Go.RowKit Pu
theorem Pu.pow4 (m : Nat) : 10000 ^ m = 10 ^ (4 * m) := by rw [show (10000 : Nat) = 10 ^ 4 from rfl, ← Nat.pow_mul]
/-- How many decimal digits: the top one's, and four for each below. -/
theorem Pu.long_iff {l b : List Nat} {t j n : Nat} (hl : l = b ++ [t]) (hd : Dig l) (hj : j = 0 ∨ 10 ^ (j - 1) ≤ t) (hj2 : t < 10 ^ j) (ht : t ≠ 0) : n < 4 * b.length + j ↔ 10 ^ n ≤ val l := by
  subst hl
  have hb : Dig b := fun d h => hd d (List.mem_append_left _ h)
  have h1 := val_lt hb
  rw [val_append]
  simp only [val, Nat.mul_zero, Nat.add_zero]
  rw [pow4] at *
  have hj0 : j ≠ 0 := by intro e; subst e; simp at hj2; omega
  have hlow : 10 ^ (j - 1) ≤ t := by rcases hj with h | h; (· omega); exact h
  constructor
  · intro hn
    have a1 : 10 ^ (4 * b.length) * 10 ^ (j - 1) ≤ 10 ^ (4 * b.length) * t := Nat.mul_le_mul_left _ hlow
    rw [← Nat.pow_add] at a1
    have a2 : 10 ^ n ≤ 10 ^ (4 * b.length + (j - 1)) := Nat.pow_le_pow_right (by omega) (by omega)
    omega
  · intro hv
    by_cases hn : n < 4 * b.length + j
    · exact hn
    · exfalso
      have a1 : 10 ^ (4 * b.length) * (t + 1) ≤ 10 ^ (4 * b.length) * 10 ^ j := Nat.mul_le_mul_left _ hj2
      rw [← Nat.pow_add, Nat.mul_add] at a1
      have a2 : 10 ^ (4 * b.length + j) ≤ 10 ^ n := Nat.pow_le_pow_right (by omega) (by omega)
      omega
set_option maxHeartbeats 800000 in
set_option maxRecDepth 100000 in
theorem long_any (nb : Bool) (v : Value) (l : List Nat) (n : Nat) (w : World) (hN : Nm w nb v l) (hl : l.length ≤ 50000) (_hn : n ≤ 1000000) : Calls Tryz.prog 76 #[nm2 nb v, .int .i64 n] w fun e w' => e = .returned (.bool (decide (10 ^ n ≤ val l))) ∧ Mod (fun _ => False) w w' := by
  obtain ⟨hd, ht, -⟩ := hN.1
  obtain ⟨ao, cap, rfl, -⟩ := owns_form hN.2
  have hO := hN.2
  have hm0 : Mod (fun _ => False) w (w.alloc (.cells #[.bool nb, .slice ao l.length cap] 116)) := (Mod.refl _ w).alloc _
  have hO0 := owns_mod hO hm0 (fun _ _ f => f)
  clear hN hO
  generalize hp : decide (10 ^ n ≤ val l) = pb at *
  have HP : Hid (decide (10 ^ n ≤ val l) = pb) := hp
  clear hp
  by_cases h0 : l = []
  · have HR : Hid (pb = false) := show pb = false by rw [← HP.out, h0]; simp [val]
    have hb : ((l.length : Int) == 0) = true := by subst h0; rfl
    have hlz : l.length = 0 := by rw [h0]; rfl
    have HLZ : l.length ≤ 0 := by omega
    clear h0 hlz
    go_enter Tryz.func76, Tryz.ntmps76
    go_wp2_with fail
    go_ret
    exact ⟨by rw [HR.out]; rfl, hm0⟩
  · obtain ⟨b, t, hbt⟩ : ∃ b t, l = b ++ [t] := ⟨l.dropLast, l.getLast h0, (List.dropLast_concat_getLast h0).symm⟩
    have HBT : Hid (l = b ++ [t]) := hbt
    have hlb : l.length = b.length + 1 := by rw [hbt]; simp
    have HLB : Hid (l.length = b.length + 1) := hlb
    have ht0 : t ≠ 0 := ht t (by rw [hbt]; simp)
    have ht4 : t < 10000 := hd t (by rw [hbt]; simp)
    have hb : ((l.length : Int) == 0) = false := by rw [beq_eq_false_iff_ne]; omega
    have hkl : b.length < l.length := by omega
    obtain ⟨gb, rfl, ct0⟩ := ivs_cell hO0 rfl hkl
    have hlt' : l[b.length] = t := by
      have : l[b.length]? = some t := by rw [hbt]; simp
      rw [List.getElem?_eq_getElem hkl] at this
      injection this
    rw [hlt'] at ct0
    clear hbt hlt' hO0
    rw [hlb] at ct0 hm0 hb ⊢
    have hbl : b.length ≤ 50000 := by omega
    clear hlb hkl hl h0
    go_enter Tryz.func76, Tryz.ntmps76
    go_wp2_with fail
    go_loop [5, 7] (fun kv pv => ∃ (j P : Nat), j ≤ 4 ∧ Hid (P = 10 ^ j) ∧ P ≤ 10000 ∧ kv = .int .i64 (4 * (b.length : Int) + (j : Int)) ∧ pv = .int .i64 P ∧ Hid (j = 0 ∨ 10 ^ (j - 1) ≤ t)) (fun _ pv => 20000 - (intOf pv).toNat)
    case atStart => exact ⟨0, 1, by omega, rfl, by omega, by simp, rfl, .inl rfl⟩
    case round =>
      obtain ⟨j, P, hj, HPJ, hP, rfl, rfl, HJ⟩ := hrel
      have hP1 : 1 ≤ P := by rw [HPJ.out]; exact Nat.pow_pos (by omega)
      by_cases hpt : P ≤ t
      · have hj4 : j < 4 := by
          by_cases e : j < 4
          · exact e
          · have : j = 4 := by omega
            have h2 := HPJ.out
            rw [this] at h2
            omega
        have hP3 : P ≤ 1000 := by
          have : 10 ^ j ≤ 10 ^ 3 := Nat.pow_le_pow_right (by omega) (by omega)
          rw [HPJ.out]; omega
        go_wp2_with fail
        go_round
        case rel => exact ⟨j + 1, 10 * P, by omega, show 10 * P = 10 ^ (j + 1) by rw [HPJ.out, Nat.pow_succ]; omega, by omega, by go_num, by go_num, show j + 1 = 0 ∨ 10 ^ (j + 1 - 1) ≤ t from .inr (by have := HPJ.out; simp; omega)⟩
        case measure => simp [intOf]; omega
      · have HR : Hid (pb = decide ((n : Int) < 4 * (b.length : Int) + (j : Int))) := show pb = decide ((n : Int) < 4 * (b.length : Int) + (j : Int)) by
          rw [← HP.out, Bool.eq_iff_iff, decide_eq_true_eq, decide_eq_true_eq, ← long_iff (n := n) HBT.out hd HJ.out (by rw [← HPJ.out]; omega) ht0]
          omega
        go_wp2_with fail
        go_ret
        exact ⟨by rw [HR.out]; rfl, hm0⟩
theorem Nmb.set1 {w : World} {b : Nat} {nb : Bool} {v : Value} (h : Nmb w b nb v) (u : Value) : Nmb (w.setCell ⟨b, 1, none⟩ u) b nb u := by unfold Nmb at *; simp [World.setCell, Array.getElem?_modify, h]
set_option maxHeartbeats 1600000 in
set_option maxRecDepth 100000 in
theorem of_neg (n : Int) (w : World) (h1 : -10000 < n) (h2 : n < 10000) (hs : n < 0) : Calls Tryz.prog 85 #[.int .i64 n] w (NumEnd w n 1) := by
  obtain ⟨i0, hi, hz0, hz1, hz2⟩ := info_parts Tryz.info3
  have hR := nmb_new w false (.slice none 0 0)
  have hX := nmb_new (w.alloc (.cells #[.bool false, .slice none 0 0] 116)) true (.slice none 0 0)
  have m1 : Mod (fun _ => False) w (w.alloc (.cells #[.bool false, .slice none 0 0] 116)) := (Mod.refl _ w).alloc _
  have m2 : Mod (fun _ => False) (w.alloc (.cells #[.bool false, .slice none 0 0] 116)) ((w.alloc (.cells #[.bool false, .slice none 0 0] 116)).alloc (.cells #[.bool true, .slice none 0 0] 116)) := (Mod.refl _ _).alloc _
  have hR2 := hR.keep m2 (fun f => f)
  have hmW := m1.trans m2
  simp only [World.size_alloc] at hX
  clear hR m1 m2
  have hsb : decide (n < 0) = true := by simp; omega
  go_enter Tryz.func85, Tryz.ntmps85
  go_wp2_with fail
  clear hsb
  generalize (w.alloc (.cells #[.bool false, .slice none 0 0] 116)).alloc (.cells #[.bool true, .slice none 0 0] 116) = W at *
  have hWz := hX.lt
  go_loopw [0] (fun nv wr => ∃ (m : Int) (ds : List Nat) (dv : Value), nv = .int .i64 m ∧ 0 ≤ m ∧ m < 10000 ∧ ds.length ≤ 1 ∧ Nmb wr (w.heap.size + 1) true dv ∧ wr.ownsRow W.heap.size 3 1 dv ds.length (ivs ds) ∧ Nmb wr w.heap.size false (.slice none 0 0) ∧ Mod (fun q => q = w.heap.size + 1) W wr ∧ Hid ((m = -n ∧ ds = []) ∨ (m = 0 ∧ ds = [(-n).toNat] ∧ 0 < -n))) (fun nv _ => (intOf nv).toNat)
  case atStart => exact ⟨-n, [], .slice none 0 0, rfl, by omega, by omega, by simp, hX, World.ownsRow_nil _ _ _ _, hR2, Mod.refl _ _, .inl ⟨rfl, rfl⟩⟩
  case round =>
    clear hX hR2
    obtain ⟨m, ds, dv, rfl, hm0, hm1, hdl, hX, hown, hR, hm, HC⟩ := hrel
    have hsz := hm.size
    have hXl := hX.lt
    have x0 := hX.c0
    have x1 := hX.c1
    have f0 := hX.fz 0
    have f1 := hX.fz 1
    obtain ⟨oo, ocap, rfl, -⟩ := owns_form hown
    by_cases hpos : 0 < m
    · have hc : m = -n ∧ ds = [] := by
        rcases HC.out with h | h
        · exact h
        · omega
      obtain ⟨hmM, rfl⟩ := hc
      have HMM : Hid (m = -n) := hmM
      have HQ : Hid (m % 10000 = ((m.toNat : Nat) : Int)) := show m % 10000 = ((m.toNat : Nat) : Int) by omega
      have HQ2 : Hid (m / 10000 = 0) := show m / 10000 = 0 by omega
      clear hmM
      go_wp2_with (at_builtin; refine wpList_append_own _ rfl _ _ 39 rfl W.heap.size 3 i0 (.int .i64 0) 1 8 Tryz.underlying39 hi hz0 hz1 hz2 rfl (by decide) _ _ _ rfl (hown.alloc _) ⟨wr.heap.size, 0, none⟩ 1 1 [_] rfl rfl (cell_one_new _ _ _) ?c2 ?c3 ?c4 ?c5 ?_)
      case c2 => first | rfl | (intro u hu; simp at hu; subst hu; rfl)
      case c3 => unfold maxLen; simp
      case c5 => first | omega | (simp; omega)
      intro v4 w4 hown4 hgrow _
      have hgm : Mod (fun q => W.heap.size ≤ q) wr w4 := ((Mod.refl _ wr).alloc _).grown hgrow (fun q hq _ => (hown.lt q hq).1)
      have hX4 : Nmb w4 (w.heap.size + 1) true (.slice oo 0 ocap) := hX.keep hgm (by omega)
      have hR4 := hR.keep hgm (by omega)
      have hown5 : w4.ownsRow W.heap.size 3 1 v4 [m.toNat].length (ivs [m.toNat]) := by
        have e : ivs [m.toNat] = [.int .i64 (m % 10000)] := by simp [ivs, HQ.out]
        rw [e]; exact hown4
      have hm5 : Mod (fun q => q = w.heap.size + 1) W w4 := ⟨hgm.os.trans hm.os, hgm.tape.trans hm.tape, hgm.output.trans hm.output, Nat.le_trans hm.size hgm.size, fun k hk hp => (hgm.block k (by omega) (by omega)).trans (hm.block k hk hp)⟩
      obtain ⟨oo4, ocap4, rfl, -⟩ := owns_form hown4
      clear x0 x1 f0 f1
      have x1 := hX4.c1
      have f1 := hX4.fz 1
      have hX6 := hX4.set1 (.slice oo4 (0 + 1) ocap4)
      have hmS : Mod (fun q => q = w.heap.size + 1) w4 (w4.setCell ⟨w.heap.size + 1, 1, none⟩ (.slice oo4 (0 + 1) ocap4)) := (Mod.refl (fun q => q = w.heap.size + 1) w4).setCell _ _ (fun _ => rfl)
      have hR6 := hR4.keep hmS (by omega)
      have hown6 := owns_mod hown5 hmS (fun q hq he => by omega)
      have hm6 := hm5.trans hmS
      clear hgrow hgm hown4 hown5 hX4 hR4 hmS hm5 hown hX hR hm
      go_wp2_with fail
      go_roundw
      case rel => exact ⟨m / 10000, [m.toNat], _, rfl, by omega, by omega, by simp, hX6, hown6, hR6, hm6, .inr ⟨HQ2.out, by rw [HMM.out], by have := HMM.out; omega⟩⟩
      case measure => rw [HQ2.out]; simp [intOf]; omega
    · have HM0 : Hid (m = 0) := show m = 0 by omega
      have hmF0 : Mod (fun _ => False) w wr := ((hmW.mono (q := fun q => q = w.heap.size + 1) (fun _ _ f => f.elim)).trans hm).mono (fun q hq h => by omega)
      have r0 := hR.c0
      have r1 := hR.c1
      have g0 := hR.fz 0
      have g1 := hR.fz 1
      have hR5 := hR.set true (.slice oo ds.length ocap)
      have q0 := hR5.c0
      have q1 := hR5.c1
      have hmF : Mod (fun _ => False) w ((wr.setCell ⟨w.heap.size, 0, none⟩ (.bool true)).setCell ⟨w.heap.size, 1, none⟩ (.slice oo ds.length ocap)) := ((hmF0.mono (q := fun q => q = w.heap.size) (fun _ _ f => f.elim)).trans (mod_set2 _ _ _ _)).mono (fun i hi h => by omega)
      have HNE : Hid (NumEnd w n 1 (.returned (nm2 true (.slice oo ds.length ocap))) ((wr.setCell ⟨w.heap.size, 0, none⟩ (.bool true)).setCell ⟨w.heap.size, 1, none⟩ (.slice oo ds.length ocap))) := by
        refine numEnd (l := ds) hmF ⟨?_, owns_set2 (owns_base hown (Nat.zero_le _)) hR _ _⟩ ?_ hdl
        · rcases HC.out with ⟨h, rfl⟩ | ⟨_, rfl, hp⟩
          · have := HM0.out; omega
          · exact ⟨fun d hd => by simp at hd; omega, fun d hd => by simp at hd; omega, fun e => by cases e⟩
        · rcases HC.out with ⟨h, rfl⟩ | ⟨_, rfl, hp⟩
          · have := HM0.out; omega
          · simp [num, val]; omega
      clear hown hm hX hmF0
      go_wp2_with fail
      exact bodyPost_ret (by simp [results, Tryz.results85, go_sem, q0, q1]) rfl HNE.out
set_option maxHeartbeats 1600000 in
set_option maxRecDepth 100000 in
theorem of_pos (n : Int) (w : World) (h1 : -10000 < n) (h2 : n < 10000) (hs : 0 ≤ n) : Calls Tryz.prog 85 #[.int .i64 n] w (NumEnd w n 1) := by
  obtain ⟨i0, hi, hz0, hz1, hz2⟩ := info_parts Tryz.info3
  have hR := nmb_new w false (.slice none 0 0)
  have hX := nmb_new (w.alloc (.cells #[.bool false, .slice none 0 0] 116)) false (.slice none 0 0)
  have m1 : Mod (fun _ => False) w (w.alloc (.cells #[.bool false, .slice none 0 0] 116)) := (Mod.refl _ w).alloc _
  have m2 : Mod (fun _ => False) (w.alloc (.cells #[.bool false, .slice none 0 0] 116)) ((w.alloc (.cells #[.bool false, .slice none 0 0] 116)).alloc (.cells #[.bool false, .slice none 0 0] 116)) := (Mod.refl _ _).alloc _
  have hR2 := hR.keep m2 (fun f => f)
  have hmW := m1.trans m2
  simp only [World.size_alloc] at hX
  clear hR m1 m2
  have hsb : decide (n < 0) = false := by simp; omega
  go_enter Tryz.func85, Tryz.ntmps85
  go_wp2_with fail
  clear hsb
  generalize (w.alloc (.cells #[.bool false, .slice none 0 0] 116)).alloc (.cells #[.bool false, .slice none 0 0] 116) = W at *
  have hWz := hX.lt
  go_loopw [0] (fun nv wr => ∃ (m : Int) (ds : List Nat) (dv : Value), nv = .int .i64 m ∧ 0 ≤ m ∧ m < 10000 ∧ ds.length ≤ 1 ∧ Nmb wr (w.heap.size + 1) false dv ∧ wr.ownsRow W.heap.size 3 1 dv ds.length (ivs ds) ∧ Nmb wr w.heap.size false (.slice none 0 0) ∧ Mod (fun q => q = w.heap.size + 1) W wr ∧ Hid ((m = n ∧ ds = []) ∨ (m = 0 ∧ ds = [(n).toNat] ∧ 0 < n))) (fun nv _ => (intOf nv).toNat)
  case atStart => exact ⟨n, [], .slice none 0 0, rfl, by omega, by omega, by simp, hX, World.ownsRow_nil _ _ _ _, hR2, Mod.refl _ _, .inl ⟨rfl, rfl⟩⟩
  case round =>
    clear hX hR2
    obtain ⟨m, ds, dv, rfl, hm0, hm1, hdl, hX, hown, hR, hm, HC⟩ := hrel
    have hsz := hm.size
    have hXl := hX.lt
    have x0 := hX.c0
    have x1 := hX.c1
    have f0 := hX.fz 0
    have f1 := hX.fz 1
    obtain ⟨oo, ocap, rfl, -⟩ := owns_form hown
    by_cases hpos : 0 < m
    · have hc : m = n ∧ ds = [] := by
        rcases HC.out with h | h
        · exact h
        · omega
      obtain ⟨hmM, rfl⟩ := hc
      have HMM : Hid (m = n) := hmM
      have HQ : Hid (m % 10000 = ((m.toNat : Nat) : Int)) := show m % 10000 = ((m.toNat : Nat) : Int) by omega
      have HQ2 : Hid (m / 10000 = 0) := show m / 10000 = 0 by omega
      clear hmM
      go_wp2_with (at_builtin; refine wpList_append_own _ rfl _ _ 39 rfl W.heap.size 3 i0 (.int .i64 0) 1 8 Tryz.underlying39 hi hz0 hz1 hz2 rfl (by decide) _ _ _ rfl (hown.alloc _) ⟨wr.heap.size, 0, none⟩ 1 1 [_] rfl rfl (cell_one_new _ _ _) ?c2 ?c3 ?c4 ?c5 ?_)
      case c2 => first | rfl | (intro u hu; simp at hu; subst hu; rfl)
      case c3 => unfold maxLen; simp
      case c5 => first | omega | (simp; omega)
      intro v4 w4 hown4 hgrow _
      have hgm : Mod (fun q => W.heap.size ≤ q) wr w4 := ((Mod.refl _ wr).alloc _).grown hgrow (fun q hq _ => (hown.lt q hq).1)
      have hX4 : Nmb w4 (w.heap.size + 1) false (.slice oo 0 ocap) := hX.keep hgm (by omega)
      have hR4 := hR.keep hgm (by omega)
      have hown5 : w4.ownsRow W.heap.size 3 1 v4 [m.toNat].length (ivs [m.toNat]) := by
        have e : ivs [m.toNat] = [.int .i64 (m % 10000)] := by simp [ivs, HQ.out]
        rw [e]; exact hown4
      have hm5 : Mod (fun q => q = w.heap.size + 1) W w4 := ⟨hgm.os.trans hm.os, hgm.tape.trans hm.tape, hgm.output.trans hm.output, Nat.le_trans hm.size hgm.size, fun k hk hp => (hgm.block k (by omega) (by omega)).trans (hm.block k hk hp)⟩
      obtain ⟨oo4, ocap4, rfl, -⟩ := owns_form hown4
      clear x0 x1 f0 f1
      have x1 := hX4.c1
      have f1 := hX4.fz 1
      have hX6 := hX4.set1 (.slice oo4 (0 + 1) ocap4)
      have hmS : Mod (fun q => q = w.heap.size + 1) w4 (w4.setCell ⟨w.heap.size + 1, 1, none⟩ (.slice oo4 (0 + 1) ocap4)) := (Mod.refl (fun q => q = w.heap.size + 1) w4).setCell _ _ (fun _ => rfl)
      have hR6 := hR4.keep hmS (by omega)
      have hown6 := owns_mod hown5 hmS (fun q hq he => by omega)
      have hm6 := hm5.trans hmS
      clear hgrow hgm hown4 hown5 hX4 hR4 hmS hm5 hown hX hR hm
      go_wp2_with fail
      go_roundw
      case rel => exact ⟨m / 10000, [m.toNat], _, rfl, by omega, by omega, by simp, hX6, hown6, hR6, hm6, .inr ⟨HQ2.out, by rw [HMM.out], by have := HMM.out; omega⟩⟩
      case measure => rw [HQ2.out]; simp [intOf]; omega
    · have HM0 : Hid (m = 0) := show m = 0 by omega
      have hmF0 : Mod (fun _ => False) w wr := ((hmW.mono (q := fun q => q = w.heap.size + 1) (fun _ _ f => f.elim)).trans hm).mono (fun q hq h => by omega)
      have r0 := hR.c0
      have r1 := hR.c1
      have g0 := hR.fz 0
      have g1 := hR.fz 1
      have hR5 := hR.set false (.slice oo ds.length ocap)
      have q0 := hR5.c0
      have q1 := hR5.c1
      have hmF : Mod (fun _ => False) w ((wr.setCell ⟨w.heap.size, 0, none⟩ (.bool false)).setCell ⟨w.heap.size, 1, none⟩ (.slice oo ds.length ocap)) := ((hmF0.mono (q := fun q => q = w.heap.size) (fun _ _ f => f.elim)).trans (mod_set2 _ _ _ _)).mono (fun i hi h => by omega)
      have HNE : Hid (NumEnd w n 1 (.returned (nm2 false (.slice oo ds.length ocap))) ((wr.setCell ⟨w.heap.size, 0, none⟩ (.bool false)).setCell ⟨w.heap.size, 1, none⟩ (.slice oo ds.length ocap))) := by
        refine numEnd (l := ds) hmF ⟨?_, owns_set2 (owns_base hown (Nat.zero_le _)) hR _ _⟩ ?_ hdl
        · rcases HC.out with ⟨h, rfl⟩ | ⟨_, rfl, hp⟩
          · exact ⟨fun d hd => by simp at hd, fun d hd => by simp at hd, fun _ => rfl⟩
          · exact ⟨fun d hd => by simp at hd; omega, fun d hd => by simp at hd; omega, fun e => by cases e⟩
        · rcases HC.out with ⟨h, rfl⟩ | ⟨_, rfl, hp⟩
          · have := HM0.out; simp [num, val]; omega
          · simp [num, val]; omega
      clear hown hm hX hmF0
      go_wp2_with fail
      exact bodyPost_ret (by simp [results, Tryz.results85, go_sem, q0, q1]) rfl HNE.out
theorem of_any (n : Int) (w : World) (h1 : -10000 < n) (h2 : n < 10000) : Calls Tryz.prog 85 #[.int .i64 n] w (NumEnd w n 1) := by
  by_cases h : n < 0
  · exact of_neg n w h1 h2 h
  · exact of_pos n w h1 h2 (by omega)
end Go.Proofs.YtmnfndpbblpjiaaGreatDoor

/- The document's decimal, numeral. -/
namespace Go.Proofs.YtmnfndpbblpjiaaGreatDoor
open Go.RowKit Pu
theorem one_byte (w : World) (n : Nat) (hn : n < 256) :
    (convert 75 9 (.slice (some ⟨w.heap.size, 0, none⟩) 1 1)).run Tryz.prog (w.alloc (.cells #[.int .u8 (n : Int)] 5))
      = .ok (.string ⟨#[UInt8.ofNat n]⟩) (w.alloc (.cells #[.int .u8 (n : Int)] 5)) := by
  refine run_convert_bytes_back (P := Tryz.prog) _ 75 9 5 ⟨w.heap.size, 0, none⟩ 1 [UInt8.ofNat n] Tryz.underlying75 Tryz.underlying5 Tryz.underlying9 ?_
  intro j hj
  have hj2 : j = 0 := by simpa using hj
  subst hj2
  have hc : (w.alloc (.cells #[.int .u8 (n : Int)] 5)).cell? ⟨w.heap.size, 0, none⟩ = #[Value.int .u8 (n : Int)][0]? := World.cell?_alloc_mark w _ _ _ 0
  have ha : (⟨w.heap.size, 0, none⟩ : Addr).add 0 = ⟨w.heap.size, 0, none⟩ := by simp [Addr.add]
  rw [ha, hc]
  simp
  omega
set_option maxHeartbeats 800000 in
set_option maxRecDepth 100000 in
theorem decimal_nat (n : Nat) (w : World) (hn : n ≤ 99) : Calls Tryz.prog 78 #[.int .i64 (n : Int)] w fun e w' => e = .returned (.string (dec (n : Int))) ∧ Mod (fun _ => False) w w' := by
  have HD : Hid (dec (n : Int) = ⟨(decN n).toArray⟩) := dec_nat n
  have hq : (48 : Int) + (n : Int) / 10 = ((48 + n / 10 : Nat) : Int) := by omega
  have hr : (48 : Int) + (n : Int) % 10 = ((48 + n % 10 : Nat) : Int) := by omega
  generalize dec (n : Int) = ans at *
  by_cases h9 : 9 < n
  · have HE : Hid (ans = ⟨#[UInt8.ofNat (48 + n / 10), UInt8.ofNat (48 + n % 10)]⟩) := show _ = _ by rw [HD.out]; unfold decN; rw [if_pos h9]
    have k1 := one_byte w (48 + n / 10) (by omega)
    have k2 := one_byte (w.alloc (.cells #[.int .u8 ((48 + n / 10 : Nat) : Int)] 5)) (48 + n % 10) (by omega)
    have hm : Mod (fun _ => False) w ((w.alloc (.cells #[.int .u8 ((48 + n / 10 : Nat) : Int)] 5)).alloc (.cells #[.int .u8 ((48 + n % 10 : Nat) : Int)] 5)) := ((Mod.refl _ w).alloc _).alloc _
    simp only [World.size_alloc] at k2
    rw [← hq] at k1 k2 hm
    rw [← hr] at k2 hm
    generalize UInt8.ofNat (48 + n / 10) = b1 at *
    generalize UInt8.ofNat (48 + n % 10) = b2 at *
    clear hq hr HD
    go_enter Tryz.func78, Tryz.ntmps78
    go_wp2_with fail
    go_ret
    exact ⟨by rw [HE.out]; rfl, hm⟩
  · have HE : Hid (ans = ⟨#[UInt8.ofNat (48 + n % 10)]⟩) := show _ = _ by rw [HD.out]; unfold decN; rw [if_neg h9]
    have k2 := one_byte w (48 + n % 10) (by omega)
    have hm : Mod (fun _ => False) w (w.alloc (.cells #[.int .u8 ((48 + n % 10 : Nat) : Int)] 5)) := (Mod.refl _ w).alloc _
    rw [← hr] at k2 hm
    generalize UInt8.ofNat (48 + n % 10) = b2 at *
    clear hq hr HD
    go_enter Tryz.func78, Tryz.ntmps78
    go_wp2_with fail
    go_ret
    exact ⟨by rw [HE.out]; rfl, hm⟩
set_option maxHeartbeats 800000 in
set_option maxRecDepth 100000 in
theorem decimal_neg (n : Nat) (w : World) (h0 : 0 < n) (hn : n ≤ 99) : Calls Tryz.prog 78 #[.int .i64 (-(n : Int))] w fun e w' => e = .returned (.string (dec (-(n : Int)))) ∧ Mod (fun _ => False) w w' := by
  have HD : Hid (dec (-(n : Int)) = ⟨(45 :: decN n).toArray⟩) := dec_neg n h0
  have hq : (48 : Int) + (n : Int) / 10 = ((48 + n / 10 : Nat) : Int) := by omega
  have hr : (48 : Int) + (n : Int) % 10 = ((48 + n % 10 : Nat) : Int) := by omega
  generalize dec (-(n : Int)) = ans at *
  by_cases h9 : 9 < n
  · have HE : Hid (ans = ⟨#[45, UInt8.ofNat (48 + n / 10), UInt8.ofNat (48 + n % 10)]⟩) := show _ = _ by rw [HD.out]; unfold decN; rw [if_pos h9]
    have k1 := one_byte w (48 + n / 10) (by omega)
    have k2 := one_byte (w.alloc (.cells #[.int .u8 ((48 + n / 10 : Nat) : Int)] 5)) (48 + n % 10) (by omega)
    have hm : Mod (fun _ => False) w ((w.alloc (.cells #[.int .u8 ((48 + n / 10 : Nat) : Int)] 5)).alloc (.cells #[.int .u8 ((48 + n % 10 : Nat) : Int)] 5)) := ((Mod.refl _ w).alloc _).alloc _
    simp only [World.size_alloc] at k2
    rw [← hq] at k1 k2 hm
    rw [← hr] at k2 hm
    generalize UInt8.ofNat (48 + n / 10) = b1 at *
    generalize UInt8.ofNat (48 + n % 10) = b2 at *
    clear hq hr HD
    go_enter Tryz.func78, Tryz.ntmps78
    go_wp2_with fail
    go_ret
    exact ⟨by rw [HE.out]; rfl, hm⟩
  · have HE : Hid (ans = ⟨#[45, UInt8.ofNat (48 + n % 10)]⟩) := show _ = _ by rw [HD.out]; unfold decN; rw [if_neg h9]
    have k2 := one_byte w (48 + n % 10) (by omega)
    have hm : Mod (fun _ => False) w (w.alloc (.cells #[.int .u8 ((48 + n % 10 : Nat) : Int)] 5)) := (Mod.refl _ w).alloc _
    rw [← hr] at k2 hm
    generalize UInt8.ofNat (48 + n % 10) = b2 at *
    clear hq hr HD
    go_enter Tryz.func78, Tryz.ntmps78
    go_wp2_with fail
    go_ret
    exact ⟨by rw [HE.out]; rfl, hm⟩
theorem decimal_any (n : Int) (w : World) (h1 : -99 ≤ n) (h2 : n ≤ 99) : Calls Tryz.prog 78 #[.int .i64 n] w fun e w' => e = .returned (.string (dec n)) ∧ Mod (fun _ => False) w w' := by
  by_cases h : n < 0
  · have := decimal_neg n.natAbs w (by omega) (by omega)
    rwa [show -((n.natAbs : Nat) : Int) = n by omega] at this
  · have := decimal_nat n.natAbs w (by omega)
    rwa [show ((n.natAbs : Nat) : Int) = n by omega] at this
end Go.Proofs.YtmnfndpbblpjiaaGreatDoor

/- The document's numeral. -/
namespace Go.Proofs.YtmnfndpbblpjiaaGreatDoor
open Go.RowKit Pu
theorem bytes_inj {a b : ByteArray} (h : a.toList = b.toList) : a = b := by
  obtain ⟨⟨a⟩⟩ := a
  obtain ⟨⟨b⟩⟩ := b
  rw [ByteArray.toList_mk, ByteArray.toList_mk] at h
  rw [h]
def numAns (o : Option Int) : Value := match o with
  | some n => .tuple #[.int .i64 n, .bool true]
  | none => .tuple #[.int .i64 0, .bool false]
set_option maxHeartbeats 800000 in
set_option maxRecDepth 100000 in
theorem numeral_any (t : ByteArray) (w : World) : Calls Tryz.prog 74 #[.string t] w fun e w' => e = .returned (numAns (numer t)) ∧ Mod (fun _ => False) w w' := by
  go_enter Tryz.func74, Tryz.ntmps74
  go_wp2_with fail
  go_loopw [4] (fun nv wr => ∃ j : Nat, j ≤ 199 ∧ nv = .int .i64 ((j : Int) - 99) ∧ Mod (fun _ => False) w wr ∧ Hid (∀ i : Nat, i < j → t ≠ dec ((i : Int) - 99))) (fun nv _ => (100 - intOf nv).toNat)
  case atStart => exact ⟨0, by omega, rfl, Mod.refl _ _, fun i hi => by omega⟩
  case round =>
    obtain ⟨j, hj, rfl, hm, HN⟩ := hrel
    by_cases hlt : j < 199
    · go_wp2_with fail
      refine (decimal_any ((j : Int) - 99) _ (by omega) (by omega)).mono ?_
      rintro e w2 ⟨rfl, hm2⟩
      have hm3 := hm.trans hm2
      clear hm hm2
      by_cases heq : t = dec ((j : Int) - 99)
      · have HV : Hid (numer t = some ((j : Int) - 99)) := numer_some hlt heq HN.out
        have hb : (t.toList == (dec ((j : Int) - 99)).toList) = true := by rw [← heq]; exact beq_self_eq_true _
        clear heq HN
        go_wp2_with fail
        go_ret2
        exact ⟨by rw [HV.out]; rfl, hm3⟩
      · have HN2 : Hid (∀ i : Nat, i < j + 1 → t ≠ dec ((i : Int) - 99)) := fun i hi => by
          by_cases e : i = j
          · subst e; exact heq
          · exact HN.out i (by omega)
        have hb : (t.toList == (dec ((j : Int) - 99)).toList) = false := by rw [beq_eq_false_iff_ne]; exact fun e => heq (bytes_inj e)
        clear heq HN
        go_wp2_with fail
        go_roundw
        case rel => exact ⟨j + 1, by omega, by go_num, hm3, HN2⟩
        case measure => simp [intOf]; omega
    · have HV : Hid (numer t = none) := numer_none (fun i hi => HN.out i (by omega))
      go_wp2_with fail
      go_ret2
      exact ⟨by rw [HV.out]; rfl, hm⟩
end Go.Proofs.YtmnfndpbblpjiaaGreatDoor

/- The document's Inputs. -/
namespace Go.Proofs.YtmnfndpbblpjiaaGreatDoor
open Go.RowKit Pu
/-- What Inputs answers. -/
def InpEnd (w : World) (o : Option (List Int)) (e : Ending) (w' : World) : Prop := Mod (fun _ => False) w w' ∧ match o with
  | none => e = .returned (.tuple #[.slice none 0 0, .bool false])
  | some l => ∃ v, e = .returned (.tuple #[v, .bool true]) ∧ w'.ownsRow w.heap.size 3 1 v l.length (zvs l)
theorem inpEnd_none {w w' : World} (hm : Mod (fun _ => False) w w') : InpEnd w none (.returned (.tuple #[.slice none 0 0, .bool false])) w' := ⟨hm, rfl⟩
theorem inpEnd_some {w w' : World} {l : List Int} {v : Value} (hm : Mod (fun _ => False) w w') (h : w'.ownsRow w.heap.size 3 1 v l.length (zvs l)) : InpEnd w (some l) (.returned (.tuple #[v, .bool true])) w' := ⟨hm, v, rfl, h⟩
set_option maxHeartbeats 800000 in
set_option maxRecDepth 100000 in
theorem inputs_any (s : ByteArray) (w : World) (hs : s.size ≤ 2000000) : Calls Tryz.prog 45 #[.string s] w (InpEnd w (inps s)) := by
  obtain ⟨i0, hi, hz0, hz1, hz2⟩ := info_parts Tryz.info3
  by_cases h0 : s.size = 0
  · have hse : s = ⟨#[]⟩ := by
      apply ByteArray.ext
      exact Array.eq_empty_of_size_eq_zero h0
    have HV : Hid (inps s = some []) := show _ = _ by simp [inps, h0]
    have hb : (s.toList == ([] : List UInt8)) = true := by rw [hse, ByteArray.toList_mk []]; rfl
    clear hse h0
    generalize inps s = ans at *
    go_enter Tryz.func45, Tryz.ntmps45
    go_wp2_with fail
    go_ret2
    rw [HV.out]
    exact inpEnd_some (Mod.refl _ _) (World.ownsRow_nil _ _ _ _)
  · have hb : (s.toList == ([] : List UInt8)) = false := by
      rw [beq_eq_false_iff_ne]
      intro e
      have : s = ⟨#[]⟩ := bytes_inj (by rw [e]; exact (ByteArray.toList_mk []).symm)
      rw [this] at h0
      exact h0 rfl
    have H0 : Hid (s.size ≠ 0) := h0
    clear h0
    go_enter Tryz.func45, Tryz.ntmps45
    go_wp2_with fail
    go_loopw [4, 5, 6, 7, 8] (fun lv fv iv _ _ wr => ∃ (i f : Nat) (l : List Int), i ≤ s.size + 1 ∧ iv = .int .i64 i ∧ fv = .int .i64 f ∧ f ≤ i ∧ l.length ≤ i ∧ wr.ownsRow w.heap.size 3 1 lv l.length (zvs l) ∧ Mod (fun _ => False) w wr ∧ Hid (inpSt s i = some (f, l))) (fun _ _ iv _ _ _ => s.size + 1 - (intOf iv).toNat)
    case atStart => exact ⟨0, 0, [], by omega, rfl, rfl, by omega, by simp, World.ownsRow_nil _ _ _ _, Mod.refl _ _, rfl⟩
    case round =>
      obtain ⟨i, f, l, hil, rfl, rfl, hfi, hll, hown, hm, HI⟩ := hrel
      obtain ⟨lo, lcap, rfl, -⟩ := owns_form hown
      by_cases hlt : i ≤ s.size
      · by_cases hc : i = s.size ∨ g s i = 44
        · have HBAD : Hid (numer (s.extract f i) = none → inps s = none) := fun h => inps_bad H0.out hlt HI.out hc h
          have HNUM : Hid (∀ n, numer (s.extract f i) = some n → inpSt s (i + 1) = some (i + 1, l ++ [n])) := fun n h => inpSt_num HI.out hc h
          by_cases hie : i = s.size
          · have b1 : ((i : Int) == (s.size : Int)) = true := beq_t hie
            clear hie
            clear hc
            go_wp2_with fail
            refine (numeral_any (s.extract f i) _).mono ?_
            rintro e w2 ⟨he, hm2⟩
            have hm3 := hm.trans hm2
            have hown3 := owns_mod hown hm2 (fun _ _ f => f)
            clear hm hm2 hown
            cases hnu : numer (s.extract f i) with
            | none =>
              have HV : Hid (inps s = none) := HBAD.out hnu
              rw [hnu] at he
              simp only [numAns] at he
              subst he
              go_wp2_with fail
              go_ret2
              rw [HV.out]
              exact inpEnd_none hm3
            | some n =>
              have hr := numer_range hnu
              have hsz := hm3.size
              have HI2 : Hid (inpSt s (i + 1) = some (i + 1, l ++ [n])) := HNUM.out n hnu
              rw [hnu] at he
              simp only [numAns] at he
              subst he
              clear hnu HBAD HNUM HI
              go_wp2_with (at_builtin; refine wpList_append_own _ rfl _ _ 39 rfl w.heap.size 3 i0 (.int .i64 0) 1 8 Tryz.underlying39 hi hz0 hz1 hz2 rfl (by decide) _ _ _ rfl (hown3.alloc _) ⟨w2.heap.size, 0, none⟩ 1 1 [.int .i64 n] rfl rfl ?p1 ?p2 ?p3 ?p4 ?p5 ?_)
              case p1 => exact cell_one_new _ _ _
              case p2 => first | rfl | (intro u hu; simp at hu; subst hu; rfl)
              case p3 => unfold maxLen; omega
              case p4 => omega
              case p5 => first | omega | (simp; omega)
              intro v4 w4 hown4 hgrow _
              have hm4 : Mod (fun _ => False) w w4 := (hm3.alloc _).grown hgrow (fun q hq hlt => by have := (hown3.lt q hq).1; omega)
              have hown5 : w4.ownsRow w.heap.size 3 1 v4 (l ++ [n]).length (zvs (l ++ [n])) := by
                have e1 : zvs (l ++ [n]) = zvs l ++ [.int .i64 n] := by simp [zvs]
                rw [e1, List.length_append]; exact hown4
              obtain ⟨oo4, ocap4, rfl, -⟩ := owns_form hown4
              clear hown4 hgrow hown3 hm3
              go_wp2_with fail
              go_roundw
              case rel => exact ⟨i + 1, i + 1, l ++ [n], by omega, by go_num, by go_num, by omega, by simp; omega, hown5, hm4, HI2⟩
              case measure => simp [intOf]; omega
          · have b1 : ((i : Int) == (s.size : Int)) = false := beq_f hie
            have hlt2 : i < s.size := by omega
            have hlt3 : (i : Int) < (s.size : Int) := by omega
            have b2 : (((s[i]'hlt2).toNat : Int) == 44) = true := beq_t (m := 44) (by rw [← g_in hlt2]; omega)
            clear hc
            go_wp2_with fail
            refine (numeral_any (s.extract f i) _).mono ?_
            rintro e w2 ⟨he, hm2⟩
            have hm3 := hm.trans hm2
            have hown3 := owns_mod hown hm2 (fun _ _ f => f)
            clear hm hm2 hown
            cases hnu : numer (s.extract f i) with
            | none =>
              have HV : Hid (inps s = none) := HBAD.out hnu
              rw [hnu] at he
              simp only [numAns] at he
              subst he
              go_wp2_with fail
              go_ret2
              rw [HV.out]
              exact inpEnd_none hm3
            | some n =>
              have hr := numer_range hnu
              have hsz := hm3.size
              have HI2 : Hid (inpSt s (i + 1) = some (i + 1, l ++ [n])) := HNUM.out n hnu
              rw [hnu] at he
              simp only [numAns] at he
              subst he
              clear hnu HBAD HNUM HI
              go_wp2_with (at_builtin; refine wpList_append_own _ rfl _ _ 39 rfl w.heap.size 3 i0 (.int .i64 0) 1 8 Tryz.underlying39 hi hz0 hz1 hz2 rfl (by decide) _ _ _ rfl (hown3.alloc _) ⟨w2.heap.size, 0, none⟩ 1 1 [.int .i64 n] rfl rfl ?p1 ?p2 ?p3 ?p4 ?p5 ?_)
              case p1 => exact cell_one_new _ _ _
              case p2 => first | rfl | (intro u hu; simp at hu; subst hu; rfl)
              case p3 => unfold maxLen; omega
              case p4 => omega
              case p5 => first | omega | (simp; omega)
              intro v4 w4 hown4 hgrow _
              have hm4 : Mod (fun _ => False) w w4 := (hm3.alloc _).grown hgrow (fun q hq hlt => by have := (hown3.lt q hq).1; omega)
              have hown5 : w4.ownsRow w.heap.size 3 1 v4 (l ++ [n]).length (zvs (l ++ [n])) := by
                have e1 : zvs (l ++ [n]) = zvs l ++ [.int .i64 n] := by simp [zvs]
                rw [e1, List.length_append]; exact hown4
              obtain ⟨oo4, ocap4, rfl, -⟩ := owns_form hown4
              clear hown4 hgrow hown3 hm3
              go_wp2_with fail
              go_roundw
              case rel => exact ⟨i + 1, i + 1, l ++ [n], by omega, by go_num, by go_num, by omega, by simp; omega, hown5, hm4, HI2⟩
              case measure => simp [intOf]; omega
        · have HI2 : Hid (inpSt s (i + 1) = some (f, l)) := inpSt_on HI.out hc
          have hlt2 : i < s.size := by omega
          have hlt3 : (i : Int) < (s.size : Int) := by omega
          have b1 : ((i : Int) == (s.size : Int)) = false := beq_f (by omega)
          have b2 : (((s[i]'hlt2).toNat : Int) == 44) = false := beq_f (m := 44) (by rw [← g_in hlt2]; omega)
          clear HI hc
          go_wp2_with fail
          go_roundw
          case rel => exact ⟨i + 1, f, l, by omega, by go_num, rfl, by omega, by omega, hown, hm, HI2⟩
          case measure => simp [intOf]; omega
      · have hi' : i = s.size + 1 := by omega
        have HV : Hid (inps s = some l) := inps_good H0.out (by rw [← hi']; exact HI.out)
        generalize inps s = ans at *
        clear hi' HI
        go_wp2_with fail
        go_ret2
        rw [HV.out]
        exact inpEnd_some hm hown
end Go.Proofs.YtmnfndpbblpjiaaGreatDoor
