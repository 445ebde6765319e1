/- The program's decode. -/
import Derived.Test.YtmnfndpbblpjiaaGreatDoorZa15
import Derived.Test.YtmnfndpbblpjiaaGreatDoorZa20
namespace Go.Proofs.YtmnfndpbblpjiaaGreatDoor
open Go.RowKit Pu
/-- What decode answers of a text. -/
def DecEnd (s : ByteArray) (w w' : World) (e : Ending) : Prop :=
  ∃ (a b : Nat) (ao : Option Addr) (n cap : Nat), e = .returned (.tuple #[.agg #[.int .u8 a, .int .u8 b, .slice ao n cap], .int .i64 (vfy s).1, .int .i64 (vfy s).2]) ∧
    ((vfy s).1 = 0 → a = g s 2 ∧ b = g s 3 ∧ begunB s = true ∧ (∀ j, j < nst s → rightB (steps s) j (stepAt s j) (g s 2) (g s 3) = true) ∧ PLst w' w.heap.size (.slice ao n cap) (steps s))
theorem Tryz.marks0 : Tryz.zeroCells105 = mcells (fun _ => false) := by rw [mcells_none]; kernel_rfl
theorem mset {w : World} {b : Nat} {M : Nat → Bool} (r : Nat) (v : Bool) (h : w.heap[b]? = some (.cells (mcells M) 105 (0, 0))) : (w.setCell ⟨b, r, none⟩ (.bool v)).heap[b]? = some (.cells (mcells (fun i => if i = r then v else M i)) 105 (0, 0)) := by
  rw [← mcells_set]
  simp [World.setCell, Array.getElem?_modify, h]
theorem dec_long (s : ByteArray) (w : World) (hs : 8006 < s.size) (hm : s.size ≤ maxLen) : Calls Tryz.prog 44 #[.string s] w fun e w' => e = .returned (.tuple #[.agg #[.int .u8 0, .int .u8 0, .slice none 0 0], .int .i64 1, .int .i64 0]) ∧ Mod (fun _ => False) w w' := by
  unfold maxLen at hm
  go_enter Tryz.func44, Tryz.ntmps44
  go_wp2_with fail
  exact bodyPost_ret (v := .tuple #[.agg #[.int .u8 0, .int .u8 0, .slice none 0 0], .int .i64 1, .int .i64 0]) (by simp [results, Tryz.results44, go_sem]) rfl ⟨rfl, (Mod.refl _ w).alloc _⟩
set_option maxHeartbeats 1600000 in
set_option maxRecDepth 100000 in
theorem dec_any (s : ByteArray) (w : World) (hs : s.size ≤ 8006) : Calls Tryz.prog 44 #[.string s] w fun e w' => DecEnd s w w' e ∧ Mod (fun _ => False) w w' := by
  have hz := Tryz.marks0
  have HZ : Hid (Tryz.zeroCells105 = mcells (fun _ => false)) := hz
  clear hz
  go_enter Tryz.func44, Tryz.ntmps44
  go_wp2_with fail
  refine (split_any s _ hs).mono ?_
  rintro e w1 ⟨⟨hb, rfl⟩ | ⟨hb, v, rfl, hL⟩, hm1⟩
  · have HV : Hid (vfy s = (8, 0)) := vfy_bad hb
    clear hb
    have hz0 := hm1.keep (heap_alloc_new w (.cells #[.int .u8 0, .int .u8 0, .slice none 0 0] 52)) (fun f => f)
    obtain ⟨c0, c1, c2⟩ := cells3 hz0
    have e0 := fz3 hz0 0
    have e1 := fz3 hz0 1
    have e2 := fz3 hz0 2
    have hlt := lt_of_block hz0
    have hmw : Mod (fun _ => False) w w1 := ((Mod.refl _ w).alloc _).trans hm1
    have hm4 := (set3_mod hmw w.heap.size (.int .u8 0) (.int .u8 0) (.slice none 0 0) (Nat.le_refl _)).alloc (.cells #[.int .u8 0, .int .u8 0, .slice none 0 0] 52)
    have HC : Hid _ := cells3 (((Mod.refl (fun _ => False) _).alloc (.cells #[.int .u8 0, .int .u8 0, .slice none 0 0] 52)).keep (set3_at (x' := .int .u8 0) (y' := .int .u8 0) (z' := .slice none 0 0) hz0) (fun f => f))
    have HE : Hid (DecEnd s w ((set3 w1 w.heap.size (.int .u8 0) (.int .u8 0) (.slice none 0 0)).alloc (.cells #[.int .u8 0, .int .u8 0, .slice none 0 0] 52)) (.returned (.tuple #[.agg #[.int .u8 0, .int .u8 0, .slice none 0 0], .int .i64 8, .int .i64 0]))) :=
      ⟨0, 0, none, 0, 0, by rw [HV.out]; rfl, fun h => by rw [HV.out] at h; cases h⟩
    clear hz0
    go_wp2_with fail
    obtain ⟨g0, g1, g2⟩ := HC.out
    unfold set3 at g0 g1 g2
    exact bodyPost_ret (v := .tuple #[.agg #[.int .u8 0, .int .u8 0, .slice none 0 0], .int .i64 8, .int .i64 0]) (by simp [results, Tryz.results44, go_sem, g0, g1, g2]) rfl ⟨HE.out, hm4⟩
  · have hlen : (steps s).length = nst s := stepsTo_len s _
    have HLen : Hid ((steps s).length = nst s) := hlen
    have HB : Hid (begunB s = true) := hb
    have hns : nst s ≤ 2000 := (nst_of hb).2.2.1
    have l2 := g_lt s 2
    have l3 := g_lt s 3
    unfold PLst at hL
    rw [hlen] at hL
    clear hb hlen
    obtain ⟨ao, cap, rfl, -⟩ := owns_form hL
    have hz0 := hm1.keep (heap_alloc_new w (.cells #[.int .u8 0, .int .u8 0, .slice none 0 0] 52)) (fun f => f)
    have hlt := lt_of_block hz0
    have hmw : Mod (fun _ => False) w w1 := ((Mod.refl _ w).alloc _).trans hm1
    clear hm1
    have hsw := hmw.size
    generalize hr2 : g s 2 = r2 at *
    generalize hr3 : g s 3 = r3 at *
    have HR2 : Hid (g s 2 = r2) := hr2
    have HR3 : Hid (g s 3 = r3) := hr3
    clear hr2 hr3
    have hm2 : Mod (fun _ => False) w1 (w1.alloc (.cells #[.int .u8 r2, .int .u8 r3, .slice ao (nst s) cap] 52)) := (Mod.refl _ w1).alloc _
    have hp2 : (w1.alloc (.cells #[.int .u8 r2, .int .u8 r3, .slice ao (nst s) cap] 52)).heap[w1.heap.size]? = some (.cells #[.int .u8 r2, .int .u8 r3, .slice ao (nst s) cap] 52 (0, 0)) := heap_alloc_new w1 _
    have hL2 := owns_mod hL hm2 (fun _ _ f => f)
    have hz2 := hm2.keep hz0 (fun f => f)
    have hmw2 := hmw.trans hm2
    have hmb : ((w1.alloc (.cells #[.int .u8 r2, .int .u8 r3, .slice ao (nst s) cap] 52)).alloc (.cells Tryz.zeroCells105 105)).heap[w1.heap.size + 1]? = some (.cells (mcells (Set (steps s) 0)) 105 (0, 0)) := by
      rw [Set_zero, ← HZ.out]; exact (alloc2_at w1 _ _).2
    have HMB : Hid _ := hmb
    clear hmb
    have hsz2 : (w1.alloc (.cells #[.int .u8 r2, .int .u8 r3, .slice ao (nst s) cap] 52)).heap.size = w1.heap.size + 1 := by simp
    have HS2 : Hid ((w1.alloc (.cells #[.int .u8 r2, .int .u8 r3, .slice ao (nst s) cap] 52)).heap.size = w1.heap.size + 1) := hsz2
    clear hsz2
    have HHs : Hid _ := And.intro hp2 (And.intro hL2 (And.intro hz2 hmw2))
    clear hp2 hL2 hz2 hmw2 hm2
    go_wp2_with fail
    generalize hw2 : w1.alloc (.cells #[.int .u8 r2, .int .u8 r3, .slice ao (nst s) cap] 52) = w2 at *
    clear hw2
    obtain ⟨hp2, hL2, hz2, hmw2⟩ := HHs.out
    clear HHs hL hz0 hmw
    go_loopw [25] (fun i wr => ∃ k : Nat, k ≤ nst s ∧ i = .int .i64 k ∧ wr.heap[w1.heap.size + 1]? = some (.cells (mcells (Set (steps s) k)) 105 (0, 0)) ∧ Mod (fun _ => False) w2 wr ∧ Hid (∀ j, j < k → rightB (steps s) j (stepAt s j) (g s 2) (g s 3) = true)) (fun i _ => nst s - (intOf i).toNat)
    case atStart => exact ⟨0, by omega, rfl, HMB.out, (Mod.refl _ _).alloc _, fun j hj => by omega⟩
    case round =>
      clear HMB
      obtain ⟨k, hk, rfl, hM, hmr, HN⟩ := hrel
      have hsr : w1.heap.size + 1 ≤ wr.heap.size := by have := hmr.size; rw [HS2.out] at this; exact this
      have hp := hmr.keep hp2 (fun f => f)
      have hz := hmr.keep hz2 (fun f => f)
      have hL := owns_mod hL2 hmr (fun _ _ f => f)
      by_cases hlt : k < nst s
      · have hkl : k < (steps s).length := by rw [HLen.out]; exact hlt
        have hLT : PLst wr (w.alloc (.cells #[.int .u8 0, .int .u8 0, .slice none 0 0] 52)).heap.size (.slice ao (nst s) cap) (steps s) := by unfold PLst; rw [HLen.out]; exact hL
        have hLT' := hLT
        rw [← HLen.out] at hLT'
        obtain ⟨gb, hao, a0, a1, a2, a3⟩ := hLT'.cell hkl
        subst hao
        rw [steps_at] at a0 a1 a2 a3
        clear hLT hLT'
        have HSt : Hid (Small (stepAt s k)) := stepAt_small s k
        have hst : Small (stepAt s k) := stepAt_small s k
        obtain ⟨s1, s2', s3, s4⟩ := hst
        have HF : Hid (rightB (steps s) k (stepAt s k) (g s 2) (g s 3) = stFit (Set (steps s) k) (stepAt s k) (g s 2) (g s 3)) := right_fit _ _ _ _ _ (Set_below (by omega) (fun j hj => by rw [steps_at]; exact HN.out j hj))
        rw [HR2.out, HR3.out] at HF
        have HSY : Hid ((stepAt s k).op ≤ 5 → Set (steps s) (k + 1) = fun r => if r = (stepAt s k).x then true else Set (steps s) k r) := fun h => by
          have := Set_yes hkl (by rw [steps_at]; exact h); rw [steps_at] at this; exact this
        have HSN : Hid (¬ (stepAt s k).op ≤ 5 → Set (steps s) (k + 1) = Set (steps s) k) := fun h => Set_no hkl (by rw [steps_at]; exact h)
        generalize ht : stepAt s k = t at *
        have HT : Hid (stepAt s k = t) := ht
        clear ht
        have hms := mcells_size (Set (steps s) k)
        have hfit := fun w => stepfits_any t r2 r3 (some ⟨gb, 0, none⟩) (nst s) cap (Set (steps s) k) w HSt.out l2 l3
        have HM : Hid (wr.heap[w1.heap.size + 1]? = some (.cells (mcells (Set (steps s) k)) 105 (0, 0))) := hM
        clear hM
        have hMa : (wr.alloc (.cells #[.int .u8 t.op, .int .u8 t.x, .int .u8 t.y, .int .u8 t.z] 107)).heap[w1.heap.size + 1]? = some (.cells (mcells (Set (steps s) k)) 105 (0, 0)) := ((Mod.refl (fun _ => False) wr).alloc _).keep HM.out (fun f => f)
        have HMA : Hid _ := hMa
        clear hMa
        obtain ⟨c0, c1, c2⟩ := cells3 hp
        have hpl : w1.heap.size < wr.heap.size := lt_of_block hp
        clear hsr
        generalize hbs : stFit (Set (steps s) k) t r2 r3 = bs at *
        clear hbs
        go_wp2_with (refine wpList_load_row rfl 105 _ rfl _ rfl (mcells (Set (steps s) k)) 105 (0, 0) ?hb0 _ Tryz.underlying105 rfl (marks_size hms) ?_; case hb0 => exact HMA.out)
        refine (hfit _).mono ?_
        rintro e w3 ⟨rfl, hm3⟩
        have HM3 : Hid (w3.heap[w1.heap.size + 1]? = some (.cells (mcells (Set (steps s) k)) 105 (0, 0))) := hm3.keep HMA.out (fun f => f)
        have hst3 := hm3.keep (heap_alloc_new wr (.cells #[.int .u8 t.op, .int .u8 t.x, .int .u8 t.y, .int .u8 t.z] 107)) (fun f => f)
        have hmr3 : Mod (fun _ => False) w2 w3 := (hmr.alloc _).trans hm3
        have hz3 := hmr3.keep hz2 (fun f => f)
        have hmw3 := hmw2.trans hmr3
        obtain ⟨d0, d1, d2, d3⟩ := cells4 hst3
        obtain ⟨p0, p1, p2⟩ := cells3 hz3
        have e0 := fz3 hz3 0
        have e1 := fz3 hz3 1
        have e2 := fz3 hz3 2
        have hst3l := lt_of_block hst3
        have hsx := fun w => setsx_any t.op w s1
        clear hst3 hm3 HMA HM hfit hz hL hp a0 a1 a2 a3 hmr
        cases bs with
        | false =>
          have HV : Hid (vfy s = (8, 1 + k)) := vfy_at HB.out hlt (by rw [HT.out, HR2.out, HR3.out]; exact HF.out) HN.out
          have hm4 := set3_mod hmw3 w.heap.size (.int .u8 0) (.int .u8 0) (.slice none 0 0) (Nat.le_refl _)
          have HC : Hid _ := cells3 (set3_at (x' := .int .u8 0) (y' := .int .u8 0) (z' := .slice none 0 0) hz3)
          have HE : Hid (DecEnd s w (set3 w3 w.heap.size (.int .u8 0) (.int .u8 0) (.slice none 0 0)) (.returned (.tuple #[.agg #[.int .u8 0, .int .u8 0, .slice none 0 0], .int .i64 8, .int .i64 (1 + (k : Int))]))) :=
            ⟨0, 0, none, 0, 0, by rw [HV.out]; simp, fun h => by rw [HV.out] at h; cases h⟩
          clear hz3 HF HN HSY HSN
          go_wp2_with fail
          obtain ⟨g0, g1, g2⟩ := HC.out
          unfold set3 at g0 g1 g2
          exact bodyPost_ret (v := .tuple #[.agg #[.int .u8 0, .int .u8 0, .slice none 0 0], .int .i64 8, .int .i64 (1 + (k : Int))]) (by simp [results, Tryz.results44, go_sem, g0, g1, g2]) rfl ⟨HE.out, hm4⟩
        | true =>
          have HN2 : Hid (∀ j, j < k + 1 → rightB (steps s) j (stepAt s j) (g s 2) (g s 3) = true) := fun j hj => by
            by_cases e : j = k
            · subst e; rw [HT.out, HR2.out, HR3.out]; exact HF.out
            · exact HN.out j (by omega)
          clear HN HF hz3 p0 p1 p2 e0 e1 e2
          by_cases h5 : t.op ≤ 5
          · have hS := HSY.out h5
            have HMS : Hid ((w3.setCell ⟨w1.heap.size + 1, t.x, none⟩ (.bool true)).heap[w1.heap.size + 1]? = some (.cells (mcells (Set (steps s) (k + 1))) 105 (0, 0))) := show _ = _ by
              rw [hS]; exact mset t.x true HM3.out
            have hm5 : Mod (fun _ => False) w2 (w3.setCell ⟨w1.heap.size + 1, t.x, none⟩ (.bool true)) := hmr3.setCell _ _ (fun h => absurd h (by have := HS2.out; show ¬ w1.heap.size + 1 < w2.heap.size; omega))
            have hfz := fz3 HM3.out t.x
            have hmg : w3.cell? ⟨w1.heap.size + 1, t.x, none⟩ = some (.bool (Set (steps s) k t.x)) := by
              have := mcells_at (Set (steps s) k) s2'
              simp only [World.cell?, HM3.out]; simpa using this
            have ix : (t.x : Int) < 256 := by omega
            clear hS HSY HSN
            go_wp2_with (go_at_call 73; refine (hsx _).mono ?_; rintro e w4 ⟨rfl, rfl⟩)
            go_roundw
            case rel => exact ⟨k + 1, by omega, by go_num, HMS.out, hm5, HN2⟩
            case measure => simp [intOf]; omega
          · have hS := HSN.out h5
            have HMS : Hid (w3.heap[w1.heap.size + 1]? = some (.cells (mcells (Set (steps s) (k + 1))) 105 (0, 0))) := show _ = _ by
              rw [hS]; exact HM3.out
            clear hS HSY HSN
            go_wp2_with (go_at_call 73; refine (hsx _).mono ?_; rintro e w4 ⟨rfl, rfl⟩)
            go_roundw
            case rel => exact ⟨k + 1, by omega, by go_num, HMS.out, hmr3, HN2⟩
            case measure => simp [intOf]; omega
      · have hks : k = nst s := by omega
        subst hks
        have HV : Hid (vfy s = (0, 0)) := vfy_ok HB.out HN.out
        have hmwr := hmw2.trans hmr
        have hm4 := set3_mod hmwr w.heap.size (.int .u8 r2) (.int .u8 r3) (.slice ao (nst s) cap) (Nat.le_refl _)
        have HC : Hid _ := cells3 (set3_at (x' := .int .u8 r2) (y' := .int .u8 r3) (z' := .slice ao (nst s) cap) hz)
        have hL5 := owns_base (base' := w.heap.size) (owns_mod hL (set3_own wr w.heap.size (.int .u8 r2) (.int .u8 r3) (.slice ao (nst s) cap)) (fun g h1 h2 => by simp at h1; omega)) (by simp)
        have HE : Hid (DecEnd s w (set3 wr w.heap.size (.int .u8 r2) (.int .u8 r3) (.slice ao (nst s) cap)) (.returned (.tuple #[.agg #[.int .u8 r2, .int .u8 r3, .slice ao (nst s) cap], .int .i64 0, .int .i64 0]))) :=
          ⟨r2, r3, ao, nst s, cap, by rw [HV.out]; rfl, fun _ => ⟨HR2.out.symm, HR3.out.symm, HB.out, HN.out, by unfold PLst; rw [HLen.out]; exact hL5⟩⟩
        obtain ⟨c0, c1, c2⟩ := cells3 hp
        obtain ⟨p0, p1, p2⟩ := cells3 hz
        have e0 := fz3 hz 0
        have e1 := fz3 hz 1
        have e2 := fz3 hz 2
        clear hL5 hL hM HN
        go_wp2_with fail
        obtain ⟨g0, g1, g2⟩ := HC.out
        unfold set3 at g0 g1 g2
        exact bodyPost_ret (v := .tuple #[.agg #[.int .u8 r2, .int .u8 r3, .slice ao (nst s) cap], .int .i64 0, .int .i64 0]) (by simp [results, Tryz.results44, go_sem, g0, g1, g2]) rfl ⟨HE.out, hm4⟩
end Go.Proofs.YtmnfndpbblpjiaaGreatDoor

/- The maker in memory; a step that is added; the next register. -/
namespace Go.Proofs.YtmnfndpbblpjiaaGreatDoor
open Go.RowKit Pu
/-- A block of steps, or of a maker. -/
def Stm (w : World) (k : Nat) : Prop := ∃ c z, w.heap[k]? = some (.cells c 107 z) ∨ w.heap[k]? = some (.cells c 86 z)
/-- Nothing has turned but steps and makers from block mb on. -/
def Kp (mb : Nat) (w w' : World) : Prop := Mod (fun k => Stm w k ∧ mb ≤ k) w w'
section
variable {mb : Nat}
theorem Kp.refl (mb : Nat) (w : World) : Kp mb w w := Mod.refl _ w
theorem Kp.trans {a b c : World} (h : Kp mb a b) (k : Kp mb b c) : Kp mb a c :=
  ⟨k.os.trans h.os, k.tape.trans h.tape, k.output.trans h.output, Nat.le_trans h.size k.size, fun i hi hn => by
    have e := h.block i hi hn
    rw [← e]
    refine k.block i (Nat.lt_of_lt_of_le hi h.size) (fun ⟨⟨c, z, hc⟩, hb⟩ => hn ⟨⟨c, z, ?_⟩, hb⟩)
    rwa [e] at hc⟩
theorem Kp.of {w w' : World} (h : Mod (fun _ => False) w w') : Kp mb w w' := h.mono (fun _ _ f => f.elim)
theorem Kp.alloc {a b : World} (h : Kp mb a b) (o : Obj) : Kp mb a (b.alloc o) := Mod.alloc h o
theorem Kp.keep {a b : World} (h : Kp mb a b) {k : Nat} {c : Array Value} {t : TypeId} {z : Nat × Nat} (hk : a.heap[k]? = some (.cells c t z)) (h1 : t ≠ 107) (h2 : t ≠ 86) : b.heap[k]? = some (.cells c t z) := by
  refine Mod.keep h hk ?_
  rintro ⟨⟨c', z', e | e⟩, -⟩
  · rw [hk] at e; cases e; exact h1 rfl
  · rw [hk] at e; cases e; exact h2 rfl
theorem Kp.owns {a b : World} (h : Kp mb a b) {base e size n : Nat} {v : Value} {xs : List Value} (ho : a.ownsRow base e size v n xs) (h1 : e ≠ 107) (h2 : e ≠ 86) : b.ownsRow base e size v n xs := by
  refine owns_mod' ho h ?_
  rintro g hg ⟨⟨c', z', hc⟩, -⟩
  obtain ⟨_, ⟨he, _⟩ | ⟨g1, c1, cur1, he1, _, hb1, _⟩⟩ := ho
  · rw [he] at hg; simp [Value.ownBlock] at hg
  · rw [he1] at hg
    simp [Value.ownBlock] at hg
    subst hg
    rcases hc with hc | hc
    · rw [hb1] at hc; cases hc; exact h1 rfl
    · rw [hb1] at hc; cases hc; exact h2 rfl
theorem Kp.mod {a b : World} (h : Kp mb a b) (hb : a.heap.size ≤ mb) : Mod (fun _ => False) a b := Mod.mono h (fun k hk f => by have := f.2; omega)
end
/-- The maker: its steps, the next register, the inputs read. -/
def Mkr (w : World) (mb : Nat) (L : List Stp) (s i : Nat) : Prop := ∃ v, w.heap[mb]? = some (.cells #[v, .int .u8 s, .int .u8 i] 86 (0, 0)) ∧ PLst w (mb + 1) v L
theorem Mkr.lt {w : World} {mb s i : Nat} {L : List Stp} (h : Mkr w mb L s i) : mb < w.heap.size := by obtain ⟨v, h1, -⟩ := h; exact lt_of_block h1
theorem Mkr.mod {w w' : World} {mb s i : Nat} {L : List Stp} (h : Mkr w mb L s i) (hm : Mod (fun _ => False) w w') : Mkr w' mb L s i := by
  obtain ⟨v, h1, h2⟩ := h
  exact ⟨v, hm.keep h1 (fun f => f), h2.mod hm⟩
theorem Mkr.alloc {w : World} {mb s i : Nat} {L : List Stp} (h : Mkr w mb L s i) (o : Obj) : Mkr (w.alloc o) mb L s i := h.mod ((Mod.refl _ w).alloc o)
set_option maxHeartbeats 1600000 in
set_option maxRecDepth 4000 in
theorem madd_any (mb : Nat) (L : List Stp) (s i : Nat) (t : Stp) (w : World) (hM : Mkr w mb L s i) (hl : L.length ≤ 3000) (ht : Small t) :
    Calls Tryz.prog 59 #[.pointer (some ⟨mb, 0, none⟩), .int .u8 t.op, .int .u8 t.x, .int .u8 t.y, .int .u8 t.z] w fun e w' => e = .returned (.tuple #[]) ∧ Kp mb w w' ∧ Mkr w' mb (L ++ [t]) s i := by
  obtain ⟨i0, hi, hz0, hz1, hz2⟩ := info_parts Tryz.infoSt
  obtain ⟨v, hb, hP⟩ := hM
  unfold PLst at hP
  obtain ⟨po, pcap, rfl, -⟩ := owns_form hP
  obtain ⟨c0, c1, c2⟩ := cells3 hb
  have hlt := lt_of_block hb
  obtain ⟨t1, t2, t3, t4⟩ := ht
  have hst : ∀ k, (Value.slice po L.length pcap).ownBlock = some k → Stm w k ∧ mb ≤ k := by
    intro k hk
    have hlo := (hP.lt k hk).1
    obtain ⟨_, ⟨he, _⟩ | ⟨g1, c1, cur1, he1, _, hb1, _⟩⟩ := hP
    · rw [he] at hk; simp [Value.ownBlock] at hk
    · rw [he1] at hk
      simp [Value.ownBlock] at hk
      subst hk
      exact ⟨⟨_, _, .inl hb1⟩, by omega⟩
  have HST : Hid _ := hst
  have HB : Hid _ := hb
  clear hst hb
  go_enter Tryz.func59, Tryz.ntmps59
  go_wp2_with (at_builtin; refine wpList_append_own _ rfl _ _ 50 rfl (mb + 1) 107 i0 _ 4 4 Tryz.underlying50 hi hz0 hz1 hz2 rfl (by decide) _ _ _ rfl (hP.alloc _) ⟨w.heap.size, 0, none⟩ 1 1 (pcells t) rfl rfl ?c1 ?c2 ?c3 ?c4 ?c5 ?_)
  case c1 => exact World.news_of_block (cs := #[.int .u8 t.op, .int .u8 t.x, .int .u8 t.y, .int .u8 t.z]) (t := 107) (fr := (0, 0)) (heap_alloc_new w _)
  case c2 => simp [pcells, Value.oneCell']
  case c3 => unfold maxLen; omega
  case c4 => omega
  case c5 => simp; omega
  intro v' w4 hown4 hgrow _
  obtain ⟨vo, vcap, rfl, -⟩ := owns_form hown4
  have hgm : Mod (fun i => mb + 1 ≤ i) w w4 := ((Mod.refl _ w).alloc _).grown hgrow (fun i hi _ => (hP.lt i hi).1)
  have hkp : Kp mb w w4 := Mod.grown ((Mod.refl _ w).alloc _) hgrow (fun i hi _ => HST.out i hi)
  have hb4 := hgm.keep HB.out (by omega)
  have f0 := fz3 hb4 0
  have h5 := set3_0 (z' := .slice vo (L.length + 1) vcap) hb4
  have hkp5 : Kp mb w (w4.setCell ⟨mb, 0, none⟩ (.slice vo (L.length + 1) vcap)) := Mod.setCell hkp ⟨mb, 0, none⟩ (.slice vo (L.length + 1) vcap) (fun _ => ⟨⟨_, _, .inr HB.out⟩, Nat.le_refl _⟩)
  have hP5 : PLst (w4.setCell ⟨mb, 0, none⟩ (.slice vo (L.length + 1) vcap)) (mb + 1) (.slice vo (L.length + 1) vcap) (L ++ [t]) := by
    unfold PLst; rw [← pcellsOf_snoc]
    refine owns_mod (p := fun q => q = mb) (by simpa using hown4) ((Mod.refl _ w4).setCell ⟨mb, 0, none⟩ (.slice vo (L.length + 1) vcap) (fun _ => rfl)) (fun g h1 h2 => by omega)
  obtain ⟨d0, d1, d2⟩ := cells3 hb4
  have HX : Hid _ := And.intro hkp5 (And.intro h5 hP5)
  clear hown4 hgrow hgm hkp h5 hkp5 hP5 hP HST HB hb4
  go_wp2_with fail
  exact bodyPost_end (v := .tuple #[]) (by simp [results, Tryz.results59]) rfl ⟨rfl, HX.out.1, _, HX.out.2.1, HX.out.2.2⟩
theorem Mkr.set1 {w : World} {mb s i : Nat} {L : List Stp} (h : Mkr w mb L s i) (j : Nat) : Mkr (w.setCell ⟨mb, 1, none⟩ (.int .u8 j)) mb L j i ∧ Kp mb w (w.setCell ⟨mb, 1, none⟩ (.int .u8 j)) := by
  obtain ⟨v, hb, hP⟩ := h
  refine ⟨⟨v, set3_1 hb, ?_⟩, Mod.setCell (Mod.refl _ w) ⟨mb, 1, none⟩ _ (fun _ => ⟨⟨_, _, .inr hb⟩, Nat.le_refl _⟩)⟩
  exact owns_mod (p := fun q => q = mb) hP ((Mod.refl _ w).setCell ⟨mb, 1, none⟩ _ (fun _ => rfl)) (fun g h1 h2 => by omega)
theorem Mkr.set2 {w : World} {mb s i : Nat} {L : List Stp} (h : Mkr w mb L s i) (j : Nat) : Mkr (w.setCell ⟨mb, 2, none⟩ (.int .u8 j)) mb L s j ∧ Kp mb w (w.setCell ⟨mb, 2, none⟩ (.int .u8 j)) := by
  obtain ⟨v, hb, hP⟩ := h
  refine ⟨⟨v, set3_2 hb, ?_⟩, Mod.setCell (Mod.refl _ w) ⟨mb, 2, none⟩ _ (fun _ => ⟨⟨_, _, .inr hb⟩, Nat.le_refl _⟩)⟩
  exact owns_mod (p := fun q => q = mb) hP ((Mod.refl _ w).setCell ⟨mb, 2, none⟩ _ (fun _ => rfl)) (fun g h1 h2 => by omega)
theorem Mkr.cells {w : World} {mb s i : Nat} {L : List Stp} (h : Mkr w mb L s i) : w.cell? ⟨mb, 1, none⟩ = some (.int .u8 s) ∧ w.cell? ⟨mb, 2, none⟩ = some (.int .u8 i) ∧ ∀ k, w.frozen? ⟨mb, k, none⟩ = false := by
  obtain ⟨v, hb, -⟩ := h
  obtain ⟨c0, c1, c2⟩ := cells3 hb
  exact ⟨c1, c2, fun k => fz3 hb k⟩
/-- Room for k more steps and registers. -/
def Room (L : List Stp) (s k : Nat) : Prop := L.length + k ≤ 2500 ∧ s + k ≤ 200
theorem Room.mono {L : List Stp} {s k j : Nat} (h : Room L s k) (hj : j ≤ k) : Room L s j := ⟨by have := h.1; omega, by have := h.2; omega⟩
theorem Room.app {L F : List Stp} {s k : Nat} (n : Nat) (h : Room L s (n + k)) (hF : F.length ≤ n) : Room (L ++ F) (s + n) k := ⟨by have := h.1; simp; omega, by have := h.2; omega⟩
/-- How a call that makes steps ends. -/
def MkEnd (w w' : World) (mb : Nat) (L : List Stp) (s i : Nat) : Prop := Kp mb w w' ∧ Mkr w' mb L s i
set_option maxHeartbeats 800000 in
theorem mwork_any (mb : Nat) (L : List Stp) (s i op y z : Nat) (w : World) (hM : Mkr w mb L s i) (hr : Room L s 1) (h1 : op < 256) (h2 : y < 256) (h3 : z < 256) :
    Calls Tryz.prog 178 #[.pointer (some ⟨mb, 0, none⟩), .int .u8 op, .int .u8 y, .int .u8 z] w fun e w' => e = .returned (.int .u8 s) ∧ MkEnd w w' mb (L ++ [⟨op, s, y, z⟩]) (s + 1) i := by
  obtain ⟨r1, r2⟩ := hr
  have w1 : IntKind.u8.wrap ((s : Int) + 1) = ((s + 1 : Nat) : Int) := by simp [IntKind.wrap, IntKind.signed, IntKind.bits]; omega
  obtain ⟨c1, c2, f⟩ := hM.cells
  have f1 := f 1
  obtain ⟨hM1, hk1⟩ := hM.set1 (s + 1)
  have hlt := hM.lt
  have hadd := madd_any mb L (s + 1) i ⟨op, s, y, z⟩ _ hM1 (by omega) ⟨h1, by show s < 256; omega, h2, h3⟩
  have HK : Hid _ := hk1
  clear hM hM1 hk1 f
  go_enter Tryz.func178, Tryz.ntmps178
  go_wp2_with fail
  refine hadd.mono ?_
  rintro e w2 ⟨rfl, hk2, hM2⟩
  have HX : Hid _ := And.intro (Kp.trans HK.out hk2) hM2
  clear hadd hk2 hM2 HK
  go_wp2_with fail
  go_ret
  exact ⟨rfl, HX.out⟩
end Go.Proofs.YtmnfndpbblpjiaaGreatDoor

/- The maker's small methods: each sets the next registers. -/
namespace Go.Proofs.YtmnfndpbblpjiaaGreatDoor
open Go.RowKit Pu
abbrev mP (mb : Nat) : Value := .pointer (some ⟨mb, 0, none⟩)
abbrev rV (r : Nat) : Value := .int .u8 (r : Int)
theorem MkEnd.trans {a b c : World} {mb s i s' i' : Nat} {L L' : List Stp} (h : MkEnd a b mb L s i) (k : MkEnd b c mb L' s' i') : MkEnd a c mb L' s' i' := ⟨Kp.trans h.1 k.1, k.2⟩
set_option maxHeartbeats 400000 in
theorem mcon_any (mb : Nat) (L : List Stp) (s i n : Nat) (w : World) (hM : Mkr w mb L s i) (hr : Room L s 1) (hn : n < 256) :
    Calls Tryz.prog 154 #[mP mb, rV n] w fun e w' => e = .returned (rV s) ∧ MkEnd w w' mb (L ++ [⟨1, s, n, 0⟩]) (s + 1) i := by
  have h := mwork_any mb L s i 1 n 0 w hM hr (by omega) hn (by omega)
  clear hM
  go_enter Tryz.func154, Tryz.ntmps154
  go_wp2_with fail
  refine h.mono ?_
  rintro e w2 ⟨rfl, hE⟩
  have HE : Hid _ := hE
  clear h hE
  go_wp2_with fail
  go_ret
  exact ⟨rfl, HE.out⟩
set_option maxHeartbeats 400000 in
theorem msum_any (mb : Nat) (L : List Stp) (s i y z : Nat) (w : World) (hM : Mkr w mb L s i) (hr : Room L s 1) (hy : y < 256) (hz : z < 256) :
    Calls Tryz.prog 157 #[mP mb, rV y, rV z] w fun e w' => e = .returned (rV s) ∧ MkEnd w w' mb (L ++ [⟨2, s, y, z⟩]) (s + 1) i := by
  have h := mwork_any mb L s i 2 y z w hM hr (by omega) hy hz
  clear hM
  go_enter Tryz.func157, Tryz.ntmps157
  go_wp2_with fail
  refine h.mono ?_
  rintro e w2 ⟨rfl, hE⟩
  have HE : Hid _ := hE
  clear h hE
  go_wp2_with fail
  go_ret
  exact ⟨rfl, HE.out⟩
set_option maxHeartbeats 400000 in
theorem mdif_any (mb : Nat) (L : List Stp) (s i y z : Nat) (w : World) (hM : Mkr w mb L s i) (hr : Room L s 1) (hy : y < 256) (hz : z < 256) :
    Calls Tryz.prog 155 #[mP mb, rV y, rV z] w fun e w' => e = .returned (rV s) ∧ MkEnd w w' mb (L ++ [⟨3, s, y, z⟩]) (s + 1) i := by
  have h := mwork_any mb L s i 3 y z w hM hr (by omega) hy hz
  clear hM
  go_enter Tryz.func155, Tryz.ntmps155
  go_wp2_with fail
  refine h.mono ?_
  rintro e w2 ⟨rfl, hE⟩
  have HE : Hid _ := hE
  clear h hE
  go_wp2_with fail
  go_ret
  exact ⟨rfl, HE.out⟩
set_option maxHeartbeats 400000 in
theorem mpro_any (mb : Nat) (L : List Stp) (s i y z : Nat) (w : World) (hM : Mkr w mb L s i) (hr : Room L s 1) (hy : y < 256) (hz : z < 256) :
    Calls Tryz.prog 150 #[mP mb, rV y, rV z] w fun e w' => e = .returned (rV s) ∧ MkEnd w w' mb (L ++ [⟨4, s, y, z⟩]) (s + 1) i := by
  have h := mwork_any mb L s i 4 y z w hM hr (by omega) hy hz
  clear hM
  go_enter Tryz.func150, Tryz.ntmps150
  go_wp2_with fail
  refine h.mono ?_
  rintro e w2 ⟨rfl, hE⟩
  have HE : Hid _ := hE
  clear h hE
  go_wp2_with fail
  go_ret
  exact ⟨rfl, HE.out⟩
set_option maxHeartbeats 400000 in
theorem msgn_any (mb : Nat) (L : List Stp) (s i y : Nat) (w : World) (hM : Mkr w mb L s i) (hr : Room L s 1) (hy : y < 256) :
    Calls Tryz.prog 153 #[mP mb, rV y] w fun e w' => e = .returned (rV s) ∧ MkEnd w w' mb (L ++ [⟨5, s, y, 0⟩]) (s + 1) i := by
  have h := mwork_any mb L s i 5 y 0 w hM hr (by omega) hy (by omega)
  clear hM
  go_enter Tryz.func153, Tryz.ntmps153
  go_wp2_with fail
  refine h.mono ?_
  rintro e w2 ⟨rfl, hE⟩
  have HE : Hid _ := hE
  clear h hE
  go_wp2_with fail
  go_ret
  exact ⟨rfl, HE.out⟩
set_option maxHeartbeats 800000 in
theorem mneg_any (mb : Nat) (L : List Stp) (s i y : Nat) (w : World) (hM : Mkr w mb L s i) (hroom : Room L s 2) (hy : y < 256) :
    Calls Tryz.prog 149 #[mP mb, rV y] w fun e w' => e = .returned (rV (s + 1)) ∧ MkEnd w w' mb (L ++ negL s y) (s + 2) i := by
  have r2 := hroom.2
  go_enter Tryz.func149, Tryz.ntmps149
  go_wp2_with fail
  refine (mcon_any mb L s i 0 w hM (hroom.mono (by omega)) (by omega)).mono ?_
  rintro e w1 ⟨rfl, hE1⟩
  have R1 : Room (L ++ [⟨1, s, 0, 0⟩]) (s + 1) 1 := Room.app 1 (k := 1) hroom (by simp)
  have HE1 : Hid _ := hE1
  clear hE1 hM
  go_wp2_with fail
  refine (mdif_any mb (L ++ [⟨1, s, 0, 0⟩]) (s + 1) i s y w1 HE1.out.2 (R1.mono (by omega)) (by omega) hy).mono ?_
  rintro e w2 ⟨rfl, hE2⟩
  have HE2 : Hid _ := MkEnd.trans HE1.out hE2
  clear hE2 HE1
  go_wp2_with fail
  go_ret
  have hL : ((L ++ [⟨1, s, 0, 0⟩]) ++ [⟨3, s + 1, s, y⟩]) = L ++ negL s y := by simp [negL]
  exact ⟨rfl, by rw [← hL]; exact HE2.out⟩
set_option maxHeartbeats 800000 in
theorem misn_any (mb : Nat) (L : List Stp) (s i y : Nat) (w : World) (hM : Mkr w mb L s i) (hroom : Room L s 4) (hy : y < 256) :
    Calls Tryz.prog 97 #[mP mb, rV y] w fun e w' => e = .returned (rV (s + 3)) ∧ MkEnd w w' mb (L ++ isnL s y) (s + 4) i := by
  have r2 := hroom.2
  go_enter Tryz.func97, Tryz.ntmps97
  go_wp2_with fail
  refine (msgn_any mb L s i y w hM (hroom.mono (by omega)) hy).mono ?_
  rintro e w1 ⟨rfl, hE1⟩
  have R1 : Room (L ++ [⟨5, s, y, 0⟩]) (s + 1) 3 := Room.app 1 (k := 3) hroom (by simp)
  have HE1 : Hid _ := hE1
  clear hE1 hM
  go_wp2_with fail
  refine (mpro_any mb (L ++ [⟨5, s, y, 0⟩]) (s + 1) i s s w1 HE1.out.2 (R1.mono (by omega)) (by omega) (by omega)).mono ?_
  rintro e w2 ⟨rfl, hE2⟩
  have R2 : Room ((L ++ [⟨5, s, y, 0⟩]) ++ [⟨4, s + 1, s, s⟩]) (s + 2) 2 := Room.app 1 (k := 2) R1 (by simp)
  have HE2 : Hid _ := MkEnd.trans HE1.out hE2
  clear hE2 HE1
  go_wp2_with fail
  refine (mcon_any mb ((L ++ [⟨5, s, y, 0⟩]) ++ [⟨4, s + 1, s, s⟩]) (s + 2) i 1 w2 HE2.out.2 (R2.mono (by omega)) (by omega)).mono ?_
  rintro e w3 ⟨rfl, hE3⟩
  have R3 : Room (((L ++ [⟨5, s, y, 0⟩]) ++ [⟨4, s + 1, s, s⟩]) ++ [⟨1, s + 2, 1, 0⟩]) (s + 3) 1 := Room.app 1 (k := 1) R2 (by simp)
  have HE3 : Hid _ := MkEnd.trans HE2.out hE3
  clear hE3 HE2
  go_wp2_with fail
  refine (mdif_any mb (((L ++ [⟨5, s, y, 0⟩]) ++ [⟨4, s + 1, s, s⟩]) ++ [⟨1, s + 2, 1, 0⟩]) (s + 3) i (s + 2) (s + 1) w3 HE3.out.2 (R3.mono (by omega)) (by omega) (by omega)).mono ?_
  rintro e w4 ⟨rfl, hE4⟩
  have HE4 : Hid _ := MkEnd.trans HE3.out hE4
  clear hE4 HE3
  go_wp2_with fail
  go_ret
  have hL : ((((L ++ [⟨5, s, y, 0⟩]) ++ [⟨4, s + 1, s, s⟩]) ++ [⟨1, s + 2, 1, 0⟩]) ++ [⟨3, s + 3, s + 2, s + 1⟩]) = L ++ isnL s y := by simp [isnL]
  exact ⟨rfl, by rw [← hL]; exact HE4.out⟩
set_option maxHeartbeats 800000 in
theorem mpS_any (mb : Nat) (L : List Stp) (s i p q r t : Nat) (w : World) (hM : Mkr w mb L s i) (hroom : Room L s 3) (hp : p < 256) (hq : q < 256) (hr : r < 256) (ht : t < 256) :
    Calls Tryz.prog 106 #[mP mb, rV p, rV q, rV r, rV t] w fun e w' => e = .returned (rV (s + 2)) ∧ MkEnd w w' mb (L ++ prodS s p q r t) (s + 3) i := by
  have r2 := hroom.2
  go_enter Tryz.func106, Tryz.ntmps106
  go_wp2_with fail
  refine (mpro_any mb L s i p q w hM (hroom.mono (by omega)) hp hq).mono ?_
  rintro e w1 ⟨rfl, hE1⟩
  have R1 : Room (L ++ [⟨4, s, p, q⟩]) (s + 1) 2 := Room.app 1 (k := 2) hroom (by simp)
  have HE1 : Hid _ := hE1
  clear hE1 hM
  go_wp2_with fail
  refine (mpro_any mb (L ++ [⟨4, s, p, q⟩]) (s + 1) i r t w1 HE1.out.2 (R1.mono (by omega)) hr ht).mono ?_
  rintro e w2 ⟨rfl, hE2⟩
  have R2 : Room ((L ++ [⟨4, s, p, q⟩]) ++ [⟨4, s + 1, r, t⟩]) (s + 2) 1 := Room.app 1 (k := 1) R1 (by simp)
  have HE2 : Hid _ := MkEnd.trans HE1.out hE2
  clear hE2 HE1
  go_wp2_with fail
  refine (msum_any mb ((L ++ [⟨4, s, p, q⟩]) ++ [⟨4, s + 1, r, t⟩]) (s + 2) i s (s + 1) w2 HE2.out.2 (R2.mono (by omega)) (by omega) (by omega)).mono ?_
  rintro e w3 ⟨rfl, hE3⟩
  have HE3 : Hid _ := MkEnd.trans HE2.out hE3
  clear hE3 HE2
  go_wp2_with fail
  go_ret
  have hL : (((L ++ [⟨4, s, p, q⟩]) ++ [⟨4, s + 1, r, t⟩]) ++ [⟨2, s + 2, s, s + 1⟩]) = L ++ prodS s p q r t := by simp [prodS]
  exact ⟨rfl, by rw [← hL]; exact HE3.out⟩
set_option maxHeartbeats 800000 in
theorem mpD_any (mb : Nat) (L : List Stp) (s i p q r t : Nat) (w : World) (hM : Mkr w mb L s i) (hroom : Room L s 3) (hp : p < 256) (hq : q < 256) (hr : r < 256) (ht : t < 256) :
    Calls Tryz.prog 152 #[mP mb, rV p, rV q, rV r, rV t] w fun e w' => e = .returned (rV (s + 2)) ∧ MkEnd w w' mb (L ++ prodD s p q r t) (s + 3) i := by
  have r2 := hroom.2
  go_enter Tryz.func152, Tryz.ntmps152
  go_wp2_with fail
  refine (mpro_any mb L s i p q w hM (hroom.mono (by omega)) hp hq).mono ?_
  rintro e w1 ⟨rfl, hE1⟩
  have R1 : Room (L ++ [⟨4, s, p, q⟩]) (s + 1) 2 := Room.app 1 (k := 2) hroom (by simp)
  have HE1 : Hid _ := hE1
  clear hE1 hM
  go_wp2_with fail
  refine (mpro_any mb (L ++ [⟨4, s, p, q⟩]) (s + 1) i r t w1 HE1.out.2 (R1.mono (by omega)) hr ht).mono ?_
  rintro e w2 ⟨rfl, hE2⟩
  have R2 : Room ((L ++ [⟨4, s, p, q⟩]) ++ [⟨4, s + 1, r, t⟩]) (s + 2) 1 := Room.app 1 (k := 1) R1 (by simp)
  have HE2 : Hid _ := MkEnd.trans HE1.out hE2
  clear hE2 HE1
  go_wp2_with fail
  refine (mdif_any mb ((L ++ [⟨4, s, p, q⟩]) ++ [⟨4, s + 1, r, t⟩]) (s + 2) i s (s + 1) w2 HE2.out.2 (R2.mono (by omega)) (by omega) (by omega)).mono ?_
  rintro e w3 ⟨rfl, hE3⟩
  have HE3 : Hid _ := MkEnd.trans HE2.out hE3
  clear hE3 HE2
  go_wp2_with fail
  go_ret
  have hL : (((L ++ [⟨4, s, p, q⟩]) ++ [⟨4, s + 1, r, t⟩]) ++ [⟨3, s + 2, s, s + 1⟩]) = L ++ prodD s p q r t := by simp [prodD]
  exact ⟨rfl, by rw [← hL]; exact HE3.out⟩
set_option maxHeartbeats 800000 in
theorem minp_any (mb : Nat) (L : List Stp) (s i : Nat) (w : World) (hM : Mkr w mb L s i) (hr : Room L s 1) (hi : i < 200) :
    Calls Tryz.prog 156 #[mP mb] w fun e w' => e = .returned (rV s) ∧ MkEnd w w' mb (L ++ [⟨0, s, i, 0⟩]) (s + 1) (i + 1) := by
  have w1 : IntKind.u8.wrap ((i : Int) + 1) = ((i + 1 : Nat) : Int) := by simp [IntKind.wrap, IntKind.signed, IntKind.bits]; omega
  obtain ⟨c1, c2, f⟩ := hM.cells
  have f2 := f 2
  obtain ⟨hM1, hk1⟩ := hM.set2 (i + 1)
  have hlt := hM.lt
  have h := mwork_any mb L s (i + 1) 0 i 0 _ hM1 hr (by omega) (by omega) (by omega)
  have HK : Hid _ := hk1
  clear hM hM1 hk1 f
  go_enter Tryz.func156, Tryz.ntmps156
  go_wp2_with fail
  refine h.mono ?_
  rintro e w2 ⟨rfl, hk2, hM2⟩
  have HX : Hid _ := And.intro (Kp.trans HK.out hk2) hM2
  clear h hk2 hM2 HK
  go_wp2_with fail
  go_ret
  exact ⟨rfl, HX.out⟩
end Go.Proofs.YtmnfndpbblpjiaaGreatDoor
