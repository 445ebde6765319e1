/- The document's Exec. -/
import Derived.Test.YtmnfndpbblpjiaaGreatDoorRe4
import Derived.Test.YtmnfndpbblpjiaaGreatDoorRv5
import Derived.Test.YtmnfndpbblpjiaaGreatDoorPq
namespace Go.Proofs.YtmnfndpbblpjiaaGreatDoor
open Go.RowKit Pu
attribute [local go_sem] wrap_b

theorem Pu.vfy_right {s : ByteArray} (h : vfy s = (0, 0)) : begunB s = true ∧ ∀ j, j < nst s → rightB (steps s) j (stepAt s j) (g s 2) (g s 3) = true := by
  cases hb : begunB s with
  | false => rw [vfy_bad hb] at h; simp at h
  | true =>
    refine ⟨rfl, fun j hj => ?_⟩
    unfold vfy at h
    rw [hb] at h
    simp only [Bool.true_eq_false, if_false] at h
    split at h
    · simp at h
    · rename_i hf
      have := List.find?_eq_none.1 hf j (by simpa using hj)
      simpa using this
theorem Pu.right_good {l : List Stp} {k : Nat} {t : Stp} {regs ins : Nat} (hs : Small t) (hr : regs ≤ 128) (h : rightB l k t regs ins = true) : Good ins t := by
  unfold rightB at h
  rw [proper_fit] at h
  simp only [Bool.and_eq_true, decide_eq_true_eq, List.all_eq_true] at h
  obtain ⟨⟨ho, hx⟩, hr2⟩ := h
  have h7 : t.op ≤ 7 := by
    refine Nat.le_of_not_lt fun hh => ?_
    simp [opFit, show ¬ t.op = 0 by omega, show ¬ t.op = 1 by omega, show ¬ t.op = 2 by omega, show ¬ t.op = 3 by omega, show ¬ t.op = 4 by omega, show ¬ t.op = 5 by omega, show ¬ t.op = 6 by omega, show ¬ t.op = 7 by omega] at ho
  refine ⟨hs, h7, by omega, fun h => ?_, fun h => ?_, fun h => ?_, fun h => ?_⟩
  · have := (hr2 t.y (by simp [readsOf, h])).1; omega
  · have := (hr2 t.z (by simp [readsOf, h])).1; omega
  · simp [opFit, h] at ho; exact ho.1
  · simp [opFit, h] at ho; exact ho
theorem Pu.inpSt_range {s : ByteArray} : ∀ (k f : Nat) (l : List Int), inpSt s k = some (f, l) → ∀ x ∈ l, -99 ≤ x ∧ x ≤ 99 := by
  intro k
  induction k with
  | zero => intro f l h; simp [inpSt] at h; rw [h.2]; intro x hx; cases hx
  | succ k ih =>
    intro f l h
    simp only [inpSt] at h
    split at h
    · cases h
    · rename_i f' l' hk
      split at h
      · split at h
        · rename_i n hn
          simp at h
          obtain ⟨-, rfl⟩ := h
          intro x hx
          rcases List.mem_append.1 hx with hx | hx
          · exact ih f' l' hk x hx
          · simp at hx; subst hx; exact numer_range hn
        · cases h
      · simp at h
        obtain ⟨-, rfl⟩ := h
        exact ih f' l' hk
theorem Pu.inps_range {s : ByteArray} {l : List Int} (h : inps s = some l) : ∀ x ∈ l, -100 < x ∧ x < 100 := by
  unfold inps at h
  split at h
  · simp at h; subst h; intro x hx; cases hx
  · simp at h
    obtain ⟨f, hf⟩ := h
    intro x hx
    have := inpSt_range _ f l hf x hx
    omega
/-- What is not a fault of the code. -/
theorem Pu.exe_bad {B : Nat} {s inp : ByteArray} (h : (vfy s).1 = 8) : exe B s inp = (⟨#[]⟩, 8) := by simp [exe, h]
theorem Pu.exe_none {B : Nat} {s inp : ByteArray} (h : vfy s = (0, 0)) (hi : inps inp = none) : exe B s inp = (⟨#[]⟩, 9) := by simp [exe, h, hi]
theorem Pu.exe_count {B : Nat} {s inp : ByteArray} {l : List Int} (h : vfy s = (0, 0)) (hi : inps inp = some l) (hl : l.length ≠ g s 3) : exe B s inp = (⟨#[]⟩, 9) := by simp [exe, h, hi, hl]
theorem Pu.exe_play {B : Nat} {s inp : ByteArray} {l : List Int} (h : vfy s = (0, 0)) (hi : inps inp = some l) (hl : l.length = g s 3) : exe B s inp = play B l (steps s) (List.replicate 128 0) ⟨#[]⟩ := by simp [exe, h, hi, hl]

set_option maxHeartbeats 400000 in
theorem rexec_long (s inp : ByteArray) (w : World) (hs : 8006 < s.size ∨ 140 < inp.size) (hm : s.size ≤ maxLen) (hm2 : inp.size ≤ maxLen) : Calls Tryz.prog 24 #[.string s, .string inp] w fun e w' => e = .returned (.tuple #[.string ⟨#[]⟩, .int .i64 1]) ∧ w = w' := by
  unfold maxLen at hm hm2
  by_cases h1 : 8006 < s.size
  · have i1 : (8006 : Int) < (s.size : Int) := by omega
    clear hs
    go_enter Tryz.func24, Tryz.ntmps24
    go_wp2_with fail
    go_ret2
    exact ⟨rfl, rfl⟩
  · have i1 : ¬ (8006 : Int) < (s.size : Int) := by omega
    have i2 : (140 : Int) < (inp.size : Int) := by omega
    clear hs
    go_enter Tryz.func24, Tryz.ntmps24
    go_wp2_with fail
    go_ret2
    exact ⟨rfl, rfl⟩

set_option maxHeartbeats 800000 in
set_option maxRecDepth 4000 in
theorem rexec_any (B nn : Nat) (hB : B = 10 ^ nn) (hnn : nn = 8000) (s inp : ByteArray) (w : World) (hs : s.size ≤ 8006) (hi : inp.size ≤ 140) : Calls Tryz.prog 24 #[.string s, .string inp] w fun e w' => e = .returned (.tuple #[.string (exe B s inp).1, .int .i64 (exe B s inp).2]) ∧ Mod (fun _ => False) w w' := by
  have i1 : ¬ (8006 : Int) < (s.size : Int) := by omega
  have i2 : ¬ (140 : Int) < (inp.size : Int) := by omega
  have HB : Hid (B = 10 ^ nn) := hB
  have HNN : Hid (nn = 8000) := hnn
  clear hB hnn
  by_cases hv : (vfy s).1 = 8
  · have HE : Hid (exe B s inp = (⟨#[]⟩, 8)) := exe_bad hv
    have HV : Hid ((vfy s).1 = 8) := hv
    clear hv
    generalize exe B s inp = ex at *
    go_enter Tryz.func24, Tryz.ntmps24
    go_wp2_with fail
    refine (rverify_any s w hs).mono ?_
    rintro e w1 ⟨he, hm1⟩
    rw [HV.out] at he
    generalize (vfy s).2 = v2 at *
    subst he
    go_wp2_with fail
    go_ret2
    exact ⟨by rw [HE.out]; rfl, hm1⟩
  · have hv0 : vfy s = (0, 0) := by
      cases hb : begunB s with
      | false => exact absurd (by rw [vfy_bad hb]) hv
      | true =>
        unfold vfy at hv ⊢
        rw [hb] at hv ⊢
        simp only [Bool.true_eq_false, if_false] at hv ⊢
        split at hv
        · exact absurd rfl hv
        · rfl
    have HV : Hid (vfy s = (0, 0)) := hv0
    obtain ⟨hb, hall⟩ := vfy_right hv0
    obtain ⟨h6, -, hn2, -, -, hr2, -⟩ := nst_of hb
    have HG : Hid (∀ t ∈ steps s, Good (g s 3) t) := fun t ht => by
      obtain ⟨j, hj, rfl⟩ := List.getElem_of_mem ht
      rw [steps_at]
      exact right_good (stepAt_small s j) hr2 (hall j (by rw [steps, stepsTo_len] at hj; exact hj))
    have HLen : Hid ((steps s).length = nst s) := stepsTo_len s _
    have h3 : 3 < s.size := by omega
    have j3 : (3 : Int) < (s.size : Int) := by omega
    have HG3 : Hid (g s 3 = (s[3]'h3).toNat) := g_in h3
    have l3 := (s[3]'h3).toNat_lt
    clear hv hv0 hb hall
    cases hin : inps inp with
    | none =>
      have HE : Hid (exe B s inp = (⟨#[]⟩, 9)) := exe_none HV.out hin
      have HIN : Hid (inps inp = none) := hin
      clear hin
      generalize exe B s inp = ex at *
      go_enter Tryz.func24, Tryz.ntmps24
      go_wp2_with fail
      refine (rverify_any s w hs).mono ?_
      rintro e w1 ⟨he, hm1⟩
      rw [HV.out] at he
      subst he
      go_wp2_with fail
      refine (inputs_any inp w1 hi).mono ?_
      rintro e w2 ⟨hm2, he⟩
      rw [HIN.out] at he
      simp only at he
      subst he
      have hm := hm1.trans hm2
      clear hm1 hm2
      go_wp2_with fail
      go_ret2
      exact ⟨by rw [HE.out]; rfl, hm⟩
    | some l =>
      have HIN : Hid (inps inp = some l) := hin
      have HR : Hid (∀ x ∈ l, -100 < x ∧ x < 100) := inps_range hin
      clear hin
      by_cases hl : l.length = g s 3
      · have HE : Hid (exe B s inp = play B l (steps s) (List.replicate 128 0) ⟨#[]⟩) := exe_play HV.out HIN.out hl
        have HLL : Hid (l.length = g s 3) := hl
        have hbq : ((l.length : Int) != ((s[3]'h3).toNat : Int)) = false := by rw [HG3.out] at hl; simp; omega
        have hll : l.length ≤ 1000 := by rw [hl, HG3.out]; omega
        clear hl
        generalize exe B s inp = ex at *
        go_enter Tryz.func24, Tryz.ntmps24
        go_wp2_with fail
        refine (rverify_any s w hs).mono ?_
        rintro e w1 ⟨he, hm1⟩
        rw [HV.out] at he
        subst he
        go_wp2_with fail
        refine (inputs_any inp w1 hi).mono ?_
        rintro e w2 ⟨hm2, he⟩
        rw [HIN.out] at he
        simp only at he
        obtain ⟨v, rfl, hown⟩ := he
        obtain ⟨vo, vcap, rfl, -⟩ := owns_form hown
        have hm := hm1.trans hm2
        clear hm1 hm2
        go_wp2_with fail
        refine (steps_any s w2 hs).mono ?_
        rintro e w3 ⟨hm3, v3, rfl, hL⟩
        have hown3 := owns_mod hown hm3 (fun _ _ f => f)
        have hm4 := hm.trans hm3
        clear hown hm hm3
        go_wp2_with fail
        refine (played_any B nn HB.out HNN.out v3 _ (steps s) l _ _ w3 (by rw [HLen.out]; omega) hL hown3 hll HR.out (fun t ht => by rw [HLL.out]; exact HG.out t ht)).mono ?_
        rintro e w4 ⟨rfl, hm5⟩
        have hmE := hm4.trans hm5
        clear hm4 hm5 hown3 hL
        go_wp2_with fail
        go_ret2
        exact ⟨by rw [HE.out]; rfl, hmE⟩
      · have HE : Hid (exe B s inp = (⟨#[]⟩, 9)) := exe_count HV.out HIN.out hl
        have hbq : ((l.length : Int) != ((s[3]'h3).toNat : Int)) = true := by rw [HG3.out] at hl; simp; omega
        clear hl
        generalize exe B s inp = ex at *
        go_enter Tryz.func24, Tryz.ntmps24
        go_wp2_with fail
        refine (rverify_any s w hs).mono ?_
        rintro e w1 ⟨he, hm1⟩
        rw [HV.out] at he
        subst he
        go_wp2_with fail
        refine (inputs_any inp w1 hi).mono ?_
        rintro e w2 ⟨hm2, he⟩
        rw [HIN.out] at he
        simp only at he
        obtain ⟨v, rfl, hown⟩ := he
        obtain ⟨vo, vcap, rfl, -⟩ := owns_form hown
        have hm := hm1.trans hm2
        clear hm1 hm2
        go_wp2_with fail
        go_ret2
        exact ⟨by rw [HE.out]; rfl, hm⟩
end Go.Proofs.YtmnfndpbblpjiaaGreatDoor
