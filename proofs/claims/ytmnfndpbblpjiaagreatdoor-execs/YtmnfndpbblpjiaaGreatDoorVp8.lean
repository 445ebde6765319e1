/- The program's decode. -/
import Derived.Test.YtmnfndpbblpjiaaGreatDoorVp7
namespace Go.Proofs.YtmnfndpbblpjiaaGreatDoor
open Go.RowKit Pu

/-- What decode answers of a text. -/
def DecEnd (s : ByteArray) (w w' : World) (e : Ending) : Prop :=
  ∃ (a b : Nat) (ao : Option Addr) (n cap : Nat), e = .returned (.tuple #[.agg #[.int .u8 a, .int .u8 b, .slice ao n cap], .int .i64 (vfy s).1, .int .i64 (vfy s).2]) ∧
    ((vfy s).1 = 0 → a = g s 2 ∧ b = g s 3 ∧ begunB s = true ∧ (∀ j, j < nst s → rightB (steps s) j (stepAt s j) (g s 2) (g s 3) = true) ∧ PLst w' w.heap.size (.slice ao n cap) (steps s))
theorem Tryz.marks0 : Tryz.zeroCells105 = mcells (fun _ => false) := by rw [mcells_none]; kernel_rfl
theorem mset {w : World} {b : Nat} {M : Nat → Bool} (r : Nat) (v : Bool) (h : w.heap[b]? = some (.cells (mcells M) 105 (0, 0))) : (w.setCell ⟨b, r, none⟩ (.bool v)).heap[b]? = some (.cells (mcells (fun i => if i = r then v else M i)) 105 (0, 0)) := by
  rw [← mcells_set]
  simp [World.setCell, Array.getElem?_modify, h]
theorem dec_long (s : ByteArray) (w : World) (hs : 8006 < s.size) (hm : s.size ≤ maxLen) : Calls Tryz.prog 44 #[.string s] w fun e w' => e = .returned (.tuple #[.agg #[.int .u8 0, .int .u8 0, .slice none 0 0], .int .i64 1, .int .i64 0]) ∧ Mod (fun _ => False) w w' := by
  unfold maxLen at hm
  go_enter Tryz.func44, Tryz.ntmps44
  go_wp2_with fail
  exact bodyPost_ret (v := .tuple #[.agg #[.int .u8 0, .int .u8 0, .slice none 0 0], .int .i64 1, .int .i64 0]) (by simp [results, Tryz.results44, go_sem]) rfl ⟨rfl, (Mod.refl _ w).alloc _⟩

set_option maxHeartbeats 1600000 in
set_option maxRecDepth 100000 in
theorem dec_any (s : ByteArray) (w : World) (hs : s.size ≤ 8006) : Calls Tryz.prog 44 #[.string s] w fun e w' => DecEnd s w w' e ∧ Mod (fun _ => False) w w' := by
  have hz := Tryz.marks0
  have HZ : Hid (Tryz.zeroCells105 = mcells (fun _ => false)) := hz
  clear hz
  go_enter Tryz.func44, Tryz.ntmps44
  go_wp2_with fail
  refine (split_any s _ hs).mono ?_
  rintro e w1 ⟨⟨hb, rfl⟩ | ⟨hb, v, rfl, hL⟩, hm1⟩
  · have HV : Hid (vfy s = (8, 0)) := vfy_bad hb
    clear hb
    have hz0 := hm1.keep (heap_alloc_new w (.cells #[.int .u8 0, .int .u8 0, .slice none 0 0] 52)) (fun f => f)
    obtain ⟨c0, c1, c2⟩ := cells3 hz0
    have e0 := fz3 hz0 0
    have e1 := fz3 hz0 1
    have e2 := fz3 hz0 2
    have hlt := lt_of_block hz0
    have hmw : Mod (fun _ => False) w w1 := ((Mod.refl _ w).alloc _).trans hm1
    have hm4 := (set3_mod hmw w.heap.size (.int .u8 0) (.int .u8 0) (.slice none 0 0) (Nat.le_refl _)).alloc (.cells #[.int .u8 0, .int .u8 0, .slice none 0 0] 52)
    have HC : Hid _ := cells3 (((Mod.refl (fun _ => False) _).alloc (.cells #[.int .u8 0, .int .u8 0, .slice none 0 0] 52)).keep (set3_at (x' := .int .u8 0) (y' := .int .u8 0) (z' := .slice none 0 0) hz0) (fun f => f))
    have HE : Hid (DecEnd s w ((set3 w1 w.heap.size (.int .u8 0) (.int .u8 0) (.slice none 0 0)).alloc (.cells #[.int .u8 0, .int .u8 0, .slice none 0 0] 52)) (.returned (.tuple #[.agg #[.int .u8 0, .int .u8 0, .slice none 0 0], .int .i64 8, .int .i64 0]))) :=
      ⟨0, 0, none, 0, 0, by rw [HV.out]; rfl, fun h => by rw [HV.out] at h; cases h⟩
    clear hz0
    go_wp2_with fail
    obtain ⟨g0, g1, g2⟩ := HC.out
    unfold set3 at g0 g1 g2
    exact bodyPost_ret (v := .tuple #[.agg #[.int .u8 0, .int .u8 0, .slice none 0 0], .int .i64 8, .int .i64 0]) (by simp [results, Tryz.results44, go_sem, g0, g1, g2]) rfl ⟨HE.out, hm4⟩
  · have hlen : (steps s).length = nst s := stepsTo_len s _
    have HLen : Hid ((steps s).length = nst s) := hlen
    have HB : Hid (begunB s = true) := hb
    have hns : nst s ≤ 2000 := (nst_of hb).2.2.1
    have l2 := g_lt s 2
    have l3 := g_lt s 3
    unfold PLst at hL
    rw [hlen] at hL
    clear hb hlen
    obtain ⟨ao, cap, rfl, -⟩ := owns_form hL
    have hz0 := hm1.keep (heap_alloc_new w (.cells #[.int .u8 0, .int .u8 0, .slice none 0 0] 52)) (fun f => f)
    have hlt := lt_of_block hz0
    have hmw : Mod (fun _ => False) w w1 := ((Mod.refl _ w).alloc _).trans hm1
    clear hm1
    have hsw := hmw.size
    generalize hr2 : g s 2 = r2 at *
    generalize hr3 : g s 3 = r3 at *
    have HR2 : Hid (g s 2 = r2) := hr2
    have HR3 : Hid (g s 3 = r3) := hr3
    clear hr2 hr3
    have hm2 : Mod (fun _ => False) w1 (w1.alloc (.cells #[.int .u8 r2, .int .u8 r3, .slice ao (nst s) cap] 52)) := (Mod.refl _ w1).alloc _
    have hp2 : (w1.alloc (.cells #[.int .u8 r2, .int .u8 r3, .slice ao (nst s) cap] 52)).heap[w1.heap.size]? = some (.cells #[.int .u8 r2, .int .u8 r3, .slice ao (nst s) cap] 52 (0, 0)) := heap_alloc_new w1 _
    have hL2 := owns_mod hL hm2 (fun _ _ f => f)
    have hz2 := hm2.keep hz0 (fun f => f)
    have hmw2 := hmw.trans hm2
    have hmb : ((w1.alloc (.cells #[.int .u8 r2, .int .u8 r3, .slice ao (nst s) cap] 52)).alloc (.cells Tryz.zeroCells105 105)).heap[w1.heap.size + 1]? = some (.cells (mcells (Set (steps s) 0)) 105 (0, 0)) := by
      rw [Set_zero, ← HZ.out]; exact (alloc2_at w1 _ _).2
    have HMB : Hid _ := hmb
    clear hmb
    have hsz2 : (w1.alloc (.cells #[.int .u8 r2, .int .u8 r3, .slice ao (nst s) cap] 52)).heap.size = w1.heap.size + 1 := by simp
    have HS2 : Hid ((w1.alloc (.cells #[.int .u8 r2, .int .u8 r3, .slice ao (nst s) cap] 52)).heap.size = w1.heap.size + 1) := hsz2
    clear hsz2
    have HHs : Hid _ := And.intro hp2 (And.intro hL2 (And.intro hz2 hmw2))
    clear hp2 hL2 hz2 hmw2 hm2
    go_wp2_with fail
    generalize hw2 : w1.alloc (.cells #[.int .u8 r2, .int .u8 r3, .slice ao (nst s) cap] 52) = w2 at *
    clear hw2
    obtain ⟨hp2, hL2, hz2, hmw2⟩ := HHs.out
    clear HHs hL hz0 hmw
    go_loopw [25] (fun i wr => ∃ k : Nat, k ≤ nst s ∧ i = .int .i64 k ∧ wr.heap[w1.heap.size + 1]? = some (.cells (mcells (Set (steps s) k)) 105 (0, 0)) ∧ Mod (fun _ => False) w2 wr ∧ Hid (∀ j, j < k → rightB (steps s) j (stepAt s j) (g s 2) (g s 3) = true)) (fun i _ => nst s - (intOf i).toNat)
    case atStart => exact ⟨0, by omega, rfl, HMB.out, (Mod.refl _ _).alloc _, fun j hj => by omega⟩
    case round =>
      clear HMB
      obtain ⟨k, hk, rfl, hM, hmr, HN⟩ := hrel
      have hsr : w1.heap.size + 1 ≤ wr.heap.size := by have := hmr.size; rw [HS2.out] at this; exact this
      have hp := hmr.keep hp2 (fun f => f)
      have hz := hmr.keep hz2 (fun f => f)
      have hL := owns_mod hL2 hmr (fun _ _ f => f)
      by_cases hlt : k < nst s
      · have hkl : k < (steps s).length := by rw [HLen.out]; exact hlt
        have hLT : PLst wr (w.alloc (.cells #[.int .u8 0, .int .u8 0, .slice none 0 0] 52)).heap.size (.slice ao (nst s) cap) (steps s) := by unfold PLst; rw [HLen.out]; exact hL
        have hLT' := hLT
        rw [← HLen.out] at hLT'
        obtain ⟨gb, hao, a0, a1, a2, a3⟩ := hLT'.cell hkl
        subst hao
        rw [steps_at] at a0 a1 a2 a3
        clear hLT hLT'
        have HSt : Hid (Small (stepAt s k)) := stepAt_small s k
        have hst : Small (stepAt s k) := stepAt_small s k
        obtain ⟨s1, s2', s3, s4⟩ := hst
        have HF : Hid (rightB (steps s) k (stepAt s k) (g s 2) (g s 3) = stFit (Set (steps s) k) (stepAt s k) (g s 2) (g s 3)) := right_fit _ _ _ _ _ (Set_below (by omega) (fun j hj => by rw [steps_at]; exact HN.out j hj))
        rw [HR2.out, HR3.out] at HF
        have HSY : Hid ((stepAt s k).op ≤ 5 → Set (steps s) (k + 1) = fun r => if r = (stepAt s k).x then true else Set (steps s) k r) := fun h => by
          have := Set_yes hkl (by rw [steps_at]; exact h); rw [steps_at] at this; exact this
        have HSN : Hid (¬ (stepAt s k).op ≤ 5 → Set (steps s) (k + 1) = Set (steps s) k) := fun h => Set_no hkl (by rw [steps_at]; exact h)
        generalize ht : stepAt s k = t at *
        have HT : Hid (stepAt s k = t) := ht
        clear ht
        have hms := mcells_size (Set (steps s) k)
        have hfit := fun w => stepfits_any t r2 r3 (some ⟨gb, 0, none⟩) (nst s) cap (Set (steps s) k) w HSt.out l2 l3
        have HM : Hid (wr.heap[w1.heap.size + 1]? = some (.cells (mcells (Set (steps s) k)) 105 (0, 0))) := hM
        clear hM
        have hMa : (wr.alloc (.cells #[.int .u8 t.op, .int .u8 t.x, .int .u8 t.y, .int .u8 t.z] 107)).heap[w1.heap.size + 1]? = some (.cells (mcells (Set (steps s) k)) 105 (0, 0)) := ((Mod.refl (fun _ => False) wr).alloc _).keep HM.out (fun f => f)
        have HMA : Hid _ := hMa
        clear hMa
        obtain ⟨c0, c1, c2⟩ := cells3 hp
        have hpl : w1.heap.size < wr.heap.size := lt_of_block hp
        clear hsr
        generalize hbs : stFit (Set (steps s) k) t r2 r3 = bs at *
        clear hbs
        go_wp2_with (refine wpList_load_row rfl 105 _ rfl _ rfl (mcells (Set (steps s) k)) 105 (0, 0) ?hb0 _ Tryz.underlying105 rfl (marks_size hms) ?_; case hb0 => exact HMA.out)
        refine (hfit _).mono ?_
        rintro e w3 ⟨rfl, hm3⟩
        have HM3 : Hid (w3.heap[w1.heap.size + 1]? = some (.cells (mcells (Set (steps s) k)) 105 (0, 0))) := hm3.keep HMA.out (fun f => f)
        have hst3 := hm3.keep (heap_alloc_new wr (.cells #[.int .u8 t.op, .int .u8 t.x, .int .u8 t.y, .int .u8 t.z] 107)) (fun f => f)
        have hmr3 : Mod (fun _ => False) w2 w3 := (hmr.alloc _).trans hm3
        have hz3 := hmr3.keep hz2 (fun f => f)
        have hmw3 := hmw2.trans hmr3
        obtain ⟨d0, d1, d2, d3⟩ := cells4 hst3
        obtain ⟨p0, p1, p2⟩ := cells3 hz3
        have e0 := fz3 hz3 0
        have e1 := fz3 hz3 1
        have e2 := fz3 hz3 2
        have hst3l := lt_of_block hst3
        have hsx := fun w => setsx_any t.op w s1
        clear hst3 hm3 HMA HM hfit hz hL hp a0 a1 a2 a3 hmr
        cases bs with
        | false =>
          have HV : Hid (vfy s = (8, 1 + k)) := vfy_at HB.out hlt (by rw [HT.out, HR2.out, HR3.out]; exact HF.out) HN.out
          have hm4 := set3_mod hmw3 w.heap.size (.int .u8 0) (.int .u8 0) (.slice none 0 0) (Nat.le_refl _)
          have HC : Hid _ := cells3 (set3_at (x' := .int .u8 0) (y' := .int .u8 0) (z' := .slice none 0 0) hz3)
          have HE : Hid (DecEnd s w (set3 w3 w.heap.size (.int .u8 0) (.int .u8 0) (.slice none 0 0)) (.returned (.tuple #[.agg #[.int .u8 0, .int .u8 0, .slice none 0 0], .int .i64 8, .int .i64 (1 + (k : Int))]))) :=
            ⟨0, 0, none, 0, 0, by rw [HV.out]; simp, fun h => by rw [HV.out] at h; cases h⟩
          clear hz3 HF HN HSY HSN
          go_wp2_with fail
          obtain ⟨g0, g1, g2⟩ := HC.out
          unfold set3 at g0 g1 g2
          exact bodyPost_ret (v := .tuple #[.agg #[.int .u8 0, .int .u8 0, .slice none 0 0], .int .i64 8, .int .i64 (1 + (k : Int))]) (by simp [results, Tryz.results44, go_sem, g0, g1, g2]) rfl ⟨HE.out, hm4⟩
        | true =>
          have HN2 : Hid (∀ j, j < k + 1 → rightB (steps s) j (stepAt s j) (g s 2) (g s 3) = true) := fun j hj => by
            by_cases e : j = k
            · subst e; rw [HT.out, HR2.out, HR3.out]; exact HF.out
            · exact HN.out j (by omega)
          clear HN HF hz3 p0 p1 p2 e0 e1 e2
          by_cases h5 : t.op ≤ 5
          · have hS := HSY.out h5
            have HMS : Hid ((w3.setCell ⟨w1.heap.size + 1, t.x, none⟩ (.bool true)).heap[w1.heap.size + 1]? = some (.cells (mcells (Set (steps s) (k + 1))) 105 (0, 0))) := show _ = _ by
              rw [hS]; exact mset t.x true HM3.out
            have hm5 : Mod (fun _ => False) w2 (w3.setCell ⟨w1.heap.size + 1, t.x, none⟩ (.bool true)) := hmr3.setCell _ _ (fun h => absurd h (by have := HS2.out; show ¬ w1.heap.size + 1 < w2.heap.size; omega))
            have hfz := fz3 HM3.out t.x
            have hmg : w3.cell? ⟨w1.heap.size + 1, t.x, none⟩ = some (.bool (Set (steps s) k t.x)) := by
              have := mcells_at (Set (steps s) k) s2'
              simp only [World.cell?, HM3.out]; simpa using this
            have ix : (t.x : Int) < 256 := by omega
            clear hS HSY HSN
            go_wp2_with (go_at_call 73; refine (hsx _).mono ?_; rintro e w4 ⟨rfl, rfl⟩)
            go_roundw
            case rel => exact ⟨k + 1, by omega, by go_num, HMS.out, hm5, HN2⟩
            case measure => simp [intOf]; omega
          · have hS := HSN.out h5
            have HMS : Hid (w3.heap[w1.heap.size + 1]? = some (.cells (mcells (Set (steps s) (k + 1))) 105 (0, 0))) := show _ = _ by
              rw [hS]; exact HM3.out
            clear hS HSY HSN
            go_wp2_with (go_at_call 73; refine (hsx _).mono ?_; rintro e w4 ⟨rfl, rfl⟩)
            go_roundw
            case rel => exact ⟨k + 1, by omega, by go_num, HMS.out, hmr3, HN2⟩
            case measure => simp [intOf]; omega
      · have hks : k = nst s := by omega
        subst hks
        have HV : Hid (vfy s = (0, 0)) := vfy_ok HB.out HN.out
        have hmwr := hmw2.trans hmr
        have hm4 := set3_mod hmwr w.heap.size (.int .u8 r2) (.int .u8 r3) (.slice ao (nst s) cap) (Nat.le_refl _)
        have HC : Hid _ := cells3 (set3_at (x' := .int .u8 r2) (y' := .int .u8 r3) (z' := .slice ao (nst s) cap) hz)
        have hL5 := owns_base (base' := w.heap.size) (owns_mod hL (set3_own wr w.heap.size (.int .u8 r2) (.int .u8 r3) (.slice ao (nst s) cap)) (fun g h1 h2 => by simp at h1; omega)) (by simp)
        have HE : Hid (DecEnd s w (set3 wr w.heap.size (.int .u8 r2) (.int .u8 r3) (.slice ao (nst s) cap)) (.returned (.tuple #[.agg #[.int .u8 r2, .int .u8 r3, .slice ao (nst s) cap], .int .i64 0, .int .i64 0]))) :=
          ⟨r2, r3, ao, nst s, cap, by rw [HV.out]; rfl, fun _ => ⟨HR2.out.symm, HR3.out.symm, HB.out, HN.out, by unfold PLst; rw [HLen.out]; exact hL5⟩⟩
        obtain ⟨c0, c1, c2⟩ := cells3 hp
        obtain ⟨p0, p1, p2⟩ := cells3 hz
        have e0 := fz3 hz 0
        have e1 := fz3 hz 1
        have e2 := fz3 hz 2
        clear hL5 hL hM HN
        go_wp2_with fail
        obtain ⟨g0, g1, g2⟩ := HC.out
        unfold set3 at g0 g1 g2
        exact bodyPost_ret (v := .tuple #[.agg #[.int .u8 r2, .int .u8 r3, .slice ao (nst s) cap], .int .i64 0, .int .i64 0]) (by simp [results, Tryz.results44, go_sem, g0, g1, g2]) rfl ⟨HE.out, hm4⟩
end Go.Proofs.YtmnfndpbblpjiaaGreatDoor
