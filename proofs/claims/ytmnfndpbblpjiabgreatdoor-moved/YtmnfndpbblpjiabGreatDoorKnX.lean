/- rulerkeep: the example, the needs, the refusals. -/
import Derived.Test.YtmnfndpbblpjiabGreatDoorZb01
import Derived.Test.YtmnfndpbblpjiabGreatDoorZb32
import Derived.Test.YtmnfndpbblpjiabGreatDoorZb33
/- Of the statements of a source: how many there are, and that their words stand in it: plain. -/
namespace Go.Proofs.YtmnfndpbblpjiabGreatDoor.Pu

theorem nx_inv {y x : Sc} {c : Nat} (h : nx y c = some x) :
    (y.st = 0 ∧ y.n ≠ 16 ∧ c = 63 ∧ x = ⟨2, y.n, y.le, y.ar⟩) ∨ (y.st = 0 ∧ y.n ≠ 16 ∧ isL c = true ∧ x = ⟨1, y.n, y.le, y.ar⟩) ∨ (y.st = 1 ∧ c = 61 ∧ x = ⟨2, y.n, y.le, y.ar⟩) ∨ (y.st = 2 ∧ isL c = true ∧ x = ⟨3, y.n, 1, y.ar⟩) ∨
    (y.st = 3 ∧ isL c = true ∧ x = ⟨3, y.n, y.le + 1, y.ar⟩) ∨ (y.st = 3 ∧ c = 40 ∧ x = ⟨4, y.n, y.le, 0⟩) ∨ (y.st = 4 ∧ isL c = true ∧ x = ⟨5, y.n, y.le, y.ar + 1⟩) ∨ (y.st = 4 ∧ c = 41 ∧ x = ⟨7, y.n, y.le, y.ar⟩) ∨
    (y.st = 5 ∧ c = 41 ∧ x = ⟨7, y.n, y.le, y.ar⟩) ∨ (y.st = 5 ∧ c = 44 ∧ x = ⟨6, y.n, y.le, y.ar⟩) ∨ (y.st = 6 ∧ isL c = true ∧ x = ⟨5, y.n, y.le, y.ar + 1⟩) ∨ (y.st = 7 ∧ c = 59 ∧ x = ⟨0, y.n + 1, y.le, y.ar⟩) := by
  unfold nx at h
  by_cases h0 : y.st = 0
  · rw [if_pos h0] at h
    by_cases h1 : y.n = 16
    · simp [h1] at h
    · by_cases h2 : c = 63
      · simp [h1, h2] at h; simp [h0, h1, h2, h]
      · by_cases h3 : isL c = true
        · simp [h1, h2, h3] at h; simp [h0, h1, h3, h]
        · simp [h1, h2, h3] at h
  rw [if_neg h0] at h
  by_cases h1 : y.st = 1
  · rw [if_pos h1] at h
    by_cases h2 : c = 61
    · simp [h2] at h; simp [h1, h2, h]
    · simp [h2] at h
  rw [if_neg h1] at h
  by_cases h2 : y.st = 2
  · rw [if_pos h2] at h
    by_cases h3 : isL c = true
    · simp [h3] at h; simp [h2, h3, h]
    · simp [h3] at h
  rw [if_neg h2] at h
  by_cases h3 : y.st = 3
  · rw [if_pos h3] at h
    by_cases h4 : isL c && decide (y.le < 6)
    · rw [if_pos h4] at h
      simp at h4 h
      simp [h3, h4.1, h]
    · rw [if_neg h4] at h
      by_cases h5 : c = 40
      · simp [h5] at h; simp [h3, h5, h]
      · simp [h5] at h
  rw [if_neg h3] at h
  by_cases h4 : y.st = 4
  · rw [if_pos h4] at h
    by_cases h5 : isL c = true
    · simp [h5] at h; simp [h4, h5, h]
    · by_cases h6 : c = 41
      · simp [h6, isL] at h; simp [h4, h6, h]
      · simp [h5, h6] at h
  rw [if_neg h4] at h
  by_cases h5 : y.st = 5
  · rw [if_pos h5] at h
    by_cases h6 : c = 41
    · simp [h6] at h; simp [h5, h6, h]
    · by_cases h7 : c = 44 ∧ y.ar < 4
      · simp [h7] at h; simp [h5, h7.1, h]
      · rw [if_neg h6, if_neg h7] at h; cases h
  rw [if_neg h5] at h
  by_cases h6 : y.st = 6
  · rw [if_pos h6] at h
    by_cases h7 : isL c = true
    · simp [h7] at h; simp [h6, h7, h]
    · simp [h7] at h
  rw [if_neg h6] at h
  by_cases h7 : y.st = 7
  · rw [if_pos h7] at h
    by_cases h8 : c = 59
    · simp [h8] at h; simp [h7, h8, h]
    · simp [h8] at h
  · rw [if_neg h7] at h; cases h
/-- The bytes wd stand in s from i on. -/
def InS (s : ByteArray) (i : Nat) (wd : List UInt8) : Prop := i + wd.length ≤ s.size ∧ ∀ j (hj : j < wd.length), bt s (i + j) = wd[j]
theorem InS.nil (s : ByteArray) {i : Nat} (h : i ≤ s.size) : InS s i [] := ⟨by simpa using h, fun j hj => by simp at hj⟩
theorem InS.snoc {s : ByteArray} {i : Nat} {wd : List UInt8} (h : InS s i wd) (hk : i + wd.length < s.size) : InS s i (wd ++ [bt s (i + wd.length)]) := by
  refine ⟨by simp; omega, fun j hj => ?_⟩
  by_cases e : j < wd.length
  · rw [List.getElem_append_left e]; exact h.2 j e
  · have : j = wd.length := by simp at hj; omega
    subst this
    simp
/-- What is so of the gathering. -/
structure GaI (s : ByteArray) (k : Nat) (x : Sc) : Prop where
  cnt : (gaA s k).l.length = x.n
  n16 : x.n ≤ 16 ∧ (x.st ≠ 0 → x.n < 16)
  ins : (gaA s k).ins = true ↔ (x.st = 4 ∨ x.st = 5 ∨ x.st = 6)
  old : ∀ y ∈ (gaA s k).l, ∃ i, InS s i y.word
  wd2 : x.st = 2 → (gaA s k).x.word = []
  wd3 : x.st = 3 → (gaA s k).x.word.length ≤ k ∧ InS s (k - (gaA s k).x.word.length) (gaA s k).x.word
  wd4 : 4 ≤ x.st → ∃ i, InS s i (gaA s k).x.word
theorem ga_inv (s : ByteArray) : ∀ (k : Nat) (x : Sc), k ≤ s.size → stA s k = some x → GaI s k x := by
  intro k
  induction k with
  | zero =>
    intro x _ h
    have : x = ⟨0, 0, 0, 0⟩ := (Option.some.inj h).symm
    subst this
    exact ⟨rfl, ⟨by decide, fun h => absurd rfl h⟩, by simp [gaA], fun y hy => by simp [gaA] at hy, fun h => by simp at h, fun h => by simp at h, fun h => by simp at h⟩
  | succ k ih =>
    intro x hk h
    obtain ⟨y, hy, hn⟩ := stA_back h
    obtain ⟨c1, c2, c3, c4, c5, c6, c7⟩ := ih y (by omega) hy
    have hl : isL (g s k) = true → 97 ≤ g s k ∧ g s k ≤ 122 := (isL_iff _).1
    have hA : gaA s (k + 1) = gaStep s k (gaA s k) := rfl
    rcases nx_inv hn with ⟨a, b, c, rfl⟩ | ⟨a, b, c, rfl⟩ | ⟨a, c, rfl⟩ | ⟨a, c, rfl⟩ | ⟨a, c, rfl⟩ | ⟨a, c, rfl⟩ | ⟨a, c, rfl⟩ | ⟨a, c, rfl⟩ | ⟨a, c, rfl⟩ | ⟨a, c, rfl⟩ | ⟨a, c, rfl⟩ | ⟨a, c, rfl⟩
    · have hG : gaStep s k (gaA s k) = ⟨(gaA s k).l, ⟨(gaA s k).x.name, [], (gaA s k).x.args⟩, (gaA s k).ins⟩ := by simp [gaStep, c]
      constructor
      all_goals (simp only [hA, hG])
      · exact c1
      · exact ⟨c2.1, fun _ => by omega⟩
      · rw [c3]; simp [a]
      · exact c4
      · intro _; trivial
      · intro h; simp at h
      · intro h; simp at h
    · have hc := hl c
      have hi : (gaA s k).ins = false := by
        cases hh : (gaA s k).ins with
        | false => rfl
        | true => rw [hh] at c3; simp [a] at c3
      have hG : gaStep s k (gaA s k) = ⟨(gaA s k).l, ⟨(gaA s k).x.name, (gaA s k).x.word ++ [bt s k], (gaA s k).x.args⟩, false⟩ := by
        simp [gaStep, c, hi, show g s k ≠ 61 by omega, show g s k ≠ 63 by omega, show g s k ≠ 40 by omega, show g s k ≠ 41 by omega, show g s k ≠ 59 by omega]
      constructor
      all_goals (simp only [hA, hG])
      · exact c1
      · exact ⟨c2.1, fun _ => by omega⟩
      · simp
      · exact c4
      · intro h; simp at h
      · intro h; simp at h
      · intro h; simp at h
    · have hG : gaStep s k (gaA s k) = ⟨(gaA s k).l, ⟨g s (k - 1), [], (gaA s k).x.args⟩, (gaA s k).ins⟩ := by simp [gaStep, c]
      constructor
      all_goals (simp only [hA, hG])
      · exact c1
      · exact ⟨c2.1, fun _ => c2.2 (by omega)⟩
      · rw [c3]; simp [a]
      · exact c4
      · intro _; trivial
      · intro h; simp at h
      · intro h; simp at h
    · have hc := hl c
      have hi : (gaA s k).ins = false := by
        cases hh : (gaA s k).ins with
        | false => rfl
        | true => rw [hh] at c3; simp [a] at c3
      have hw := c5 a
      have hG : gaStep s k (gaA s k) = ⟨(gaA s k).l, ⟨(gaA s k).x.name, [bt s k], (gaA s k).x.args⟩, false⟩ := by
        simp [gaStep, c, hi, hw, show g s k ≠ 61 by omega, show g s k ≠ 63 by omega, show g s k ≠ 40 by omega, show g s k ≠ 41 by omega, show g s k ≠ 59 by omega]
      constructor
      all_goals (simp only [hA, hG])
      · exact c1
      · exact ⟨c2.1, fun _ => c2.2 (by omega)⟩
      · simp
      · exact c4
      · intro h; simp at h
      · intro _
        have := (InS.nil s (i := k) (by omega)).snoc (by simp; omega)
        simpa using this
      · intro h; simp at h
    · have hc := hl c
      have hi : (gaA s k).ins = false := by
        cases hh : (gaA s k).ins with
        | false => rfl
        | true => rw [hh] at c3; simp [a] at c3
      obtain ⟨w1, w2⟩ := c6 a
      have hG : gaStep s k (gaA s k) = ⟨(gaA s k).l, ⟨(gaA s k).x.name, (gaA s k).x.word ++ [bt s k], (gaA s k).x.args⟩, false⟩ := by
        simp [gaStep, c, hi, show g s k ≠ 61 by omega, show g s k ≠ 63 by omega, show g s k ≠ 40 by omega, show g s k ≠ 41 by omega, show g s k ≠ 59 by omega]
      constructor
      all_goals (simp only [hA, hG])
      · exact c1
      · exact ⟨c2.1, fun _ => c2.2 (by omega)⟩
      · simp
      · exact c4
      · intro h; simp at h
      · intro _
        have e : k - (gaA s k).x.word.length + (gaA s k).x.word.length = k := by omega
        have := w2.snoc (by omega)
        rw [e] at this
        refine ⟨by simp; omega, ?_⟩
        rw [show k + 1 - ((gaA s k).x.word ++ [bt s k]).length = k - (gaA s k).x.word.length by simp]
        exact this
      · intro h; simp at h
    · have hG : gaStep s k (gaA s k) = ⟨(gaA s k).l, (gaA s k).x, true⟩ := by simp [gaStep, c]
      constructor
      all_goals (simp only [hA, hG])
      · exact c1
      · exact ⟨c2.1, fun _ => c2.2 (by omega)⟩
      · simp
      · exact c4
      · intro h; simp at h
      · intro h; simp at h
      · intro _; exact ⟨_, (c6 a).2⟩
    · have hc := hl c
      have hi : (gaA s k).ins = true := c3.2 (.inl a)
      have hG : gaStep s k (gaA s k) = ⟨(gaA s k).l, ⟨(gaA s k).x.name, (gaA s k).x.word, (gaA s k).x.args ++ [bt s k]⟩, true⟩ := by
        simp [gaStep, c, hi, show g s k ≠ 61 by omega, show g s k ≠ 63 by omega, show g s k ≠ 40 by omega, show g s k ≠ 41 by omega, show g s k ≠ 59 by omega]
      constructor
      all_goals (simp only [hA, hG])
      · exact c1
      · exact ⟨c2.1, fun _ => c2.2 (by omega)⟩
      · simp
      · exact c4
      · intro h; simp at h
      · intro h; simp at h
      · intro _; exact c7 (by omega)
    · have hG : gaStep s k (gaA s k) = ⟨(gaA s k).l, (gaA s k).x, false⟩ := by simp [gaStep, c]
      constructor
      all_goals (simp only [hA, hG])
      · exact c1
      · exact ⟨c2.1, fun _ => c2.2 (by omega)⟩
      · simp
      · exact c4
      · intro h; simp at h
      · intro h; simp at h
      · intro _; exact c7 (by omega)
    · have hG : gaStep s k (gaA s k) = ⟨(gaA s k).l, (gaA s k).x, false⟩ := by simp [gaStep, c]
      constructor
      all_goals (simp only [hA, hG])
      · exact c1
      · exact ⟨c2.1, fun _ => c2.2 (by omega)⟩
      · simp
      · exact c4
      · intro h; simp at h
      · intro h; simp at h
      · intro _; exact c7 (by omega)
    · have hG : gaStep s k (gaA s k) = gaA s k := by simp [gaStep, c, isL]
      constructor
      all_goals (simp only [hA, hG])
      · exact c1
      · exact ⟨c2.1, fun _ => c2.2 (by omega)⟩
      · rw [c3]; simp [a]
      · exact c4
      · intro h; simp at h
      · intro h; simp at h
      · intro _; exact c7 (by omega)
    · have hc := hl c
      have hi : (gaA s k).ins = true := c3.2 (.inr (.inr a))
      have hG : gaStep s k (gaA s k) = ⟨(gaA s k).l, ⟨(gaA s k).x.name, (gaA s k).x.word, (gaA s k).x.args ++ [bt s k]⟩, true⟩ := by
        simp [gaStep, c, hi, show g s k ≠ 61 by omega, show g s k ≠ 63 by omega, show g s k ≠ 40 by omega, show g s k ≠ 41 by omega, show g s k ≠ 59 by omega]
      constructor
      all_goals (simp only [hA, hG])
      · exact c1
      · exact ⟨c2.1, fun _ => c2.2 (by omega)⟩
      · simp
      · exact c4
      · intro h; simp at h
      · intro h; simp at h
      · intro _; exact c7 (by omega)
    · have hG : gaStep s k (gaA s k) = ⟨(gaA s k).l ++ [(gaA s k).x], ⟨0, [], []⟩, (gaA s k).ins⟩ := by simp [gaStep, c]
      have h15 := c2.2 (by omega)
      constructor
      all_goals (simp only [hA, hG])
      · simp [c1]
      · exact ⟨by omega, fun h => absurd rfl h⟩
      · rw [c3]; simp [a]
      · intro z hz
        rcases List.mem_append.1 hz with hz | hz
        · exact c4 z hz
        · simp at hz; subst hz; exact c7 (by omega)
      · intro h; simp at h
      · intro h; simp at h
      · intro h; simp at h
theorem whole_count {s : ByteArray} (h : Whole s) : (gaA s s.size).l.length ≤ 16 ∧ ∀ y ∈ (gaA s s.size).l, ∃ i, InS s i y.word := by
  obtain ⟨x, hx, -⟩ := h
  have hi := ga_inv s s.size x (Nat.le_refl _) hx
  exact ⟨by rw [hi.cnt]; exact hi.n16.1, hi.old⟩
end Go.Proofs.YtmnfndpbblpjiabGreatDoor.Pu

namespace Go.Proofs.YtmnfndpbblpjiabGreatDoor
open Go.RowKit Pu

theorem awk_run : RunA awkS (jnL [0, 0, 1, 1, 2, 2]) (⟨#[49, 48, 49]⟩, 0) := by
  have h := RunA_of awk_whole awk_ok awk_ga awk_cmds (ins := [0, 0, 1, 1, 2, 2]) (by decide) rfl
  have e : semC [0, 0, 1, 1, 2, 2] awkC 0 0 [] ⟨#[]⟩ = ⟨#[49, 48, 49]⟩ := by kernel_rfl
  rwa [e] at h
def awkI : ByteArray := ⟨#[48, 44, 48, 44, 49, 44, 49, 44, 50, 44, 50]⟩
theorem awkI_eq : jnL [0, 0, 1, 1, 2, 2] = awkI := by kernel_rfl
set_option maxHeartbeats 400000 in
set_option maxRecDepth 100000 in
theorem awake_any (w : World) : Calls Tryz.prog 13 #[] w fun e w' => e = .returned (.bool true) ∧ Mod (fun _ => False) w w' := by
  have hR := awk_run
  rw [awkI_eq] at hR
  have h := tells_any awkS awkI ⟨#[49, 48, 49]⟩ w (by decide) (by decide) hR
  clear hR
  go_enter Tryz.func13, Tryz.ntmps13
  go_wp2_with fail
  refine h.mono ?_
  rintro e w1 ⟨rfl, k1⟩
  clear h
  go_wp2_with fail
  go_ret
  exact ⟨rfl, k1⟩
/-- What needs tells of a source. -/
def NsA (s : ByteArray) (n : Nat) (b : Bool) : Prop := (300 < s.size ∧ n = 0 ∧ b = false) ∨ (s.size ≤ 300 ∧ ∃ a p, Ans s a p ∧ ((a ≠ 0 ∧ n = 0 ∧ b = false) ∨ (a = 0 ∧ n = ndR (gaA s s.size).l ∧ n ≤ 32 ∧ b = true)))
theorem ndR_even (l : List St) : ndR l % 2 = 0 := by
  induction l with
  | nil => rfl
  | cons x l ih =>
    simp only [ndR, List.map_cons, List.sum_cons] at *
    have : ptR x = 0 ∨ ptR x = 2 := by unfold ptR; split <;> simp
    omega
set_option maxHeartbeats 800000 in
theorem kneeds_any (s : ByteArray) (w : World) (hm : s.size ≤ maxLen) : Calls Tryz.prog 14 #[.string s] w fun e w' => Mod (fun _ => False) w w' ∧ ∃ n b, NsA s n b ∧ e = .returned (.tuple #[.int .i64 (n : Nat), .bool b]) := by
  by_cases hs : s.size ≤ 300
  · have h := needs_any s w hs
    go_enter Tryz.func14, Tryz.ntmps14
    go_wp2_with fail
    refine h.mono ?_
    rintro e w1 ⟨⟨n, a, hN, rfl⟩, hm1⟩
    clear h
    obtain ⟨p, hA, hc⟩ := hN
    rcases hc with ⟨h0, rfl⟩ | ⟨rfl, hn⟩
    · have HN : Hid (NsA s 0 false) := .inr ⟨hs, a, p, hA, .inl ⟨h0, rfl, rfl⟩⟩
      have hb : ((a : Int) == 0) = false := by rw [beq_eq_false_iff_ne]; omega
      clear h0 hA
      go_wp2_with fail
      go_ret2
      exact ⟨hm1, 0, false, HN.out, rfl⟩
    · have hW : Whole s := hA.zero.1
      have hl := (whole_count hW).1
      have h2 := ndR_le (gaA s s.size).l
      have h3 := ndR_even (gaA s s.size).l
      have hn32 : n ≤ 32 := by omega
      have HN : Hid (NsA s n true) := .inr ⟨hs, 0, p, hA, .inr ⟨rfl, hn, hn32, rfl⟩⟩
      have q1 : ((n : Int)).tmod 2 = 0 := by rw [Int.tmod_eq_emod_of_nonneg (by omega)]; omega
      have q2 : ((n : Int)) ≤ 32 := by omega
      clear hA hW hl h2 h3 hn hn32
      go_wp2_with fail
      go_ret2
      exact ⟨hm1, n, true, HN.out, rfl⟩
  · have h := needs_long s w (by omega) hm
    have HN : Hid (NsA s 0 false) := .inl ⟨by omega, rfl, rfl⟩
    go_enter Tryz.func14, Tryz.ntmps14
    go_wp2_with fail
    refine h.mono ?_
    rintro e w1 ⟨rfl, rfl⟩
    clear h
    go_wp2_with fail
    go_ret2
    exact ⟨Mod.refl _ _, 0, false, HN.out, rfl⟩
theorem RunA.bad {s inp : ByteArray} {r : ByteArray × Nat} {a b : Nat} (h : RunA s inp r) (hA : Ans s a b) (h0 : a ≠ 0) : r = (⟨#[]⟩, a) := h.unique ⟨a, b, hA, .inl ⟨h0, rfl⟩⟩
theorem CmpA.unique {s : ByteArray} {r t : ByteArray × Nat} (h : CmpA s r) (k : CmpA s t) : r = t := by
  obtain ⟨a, b, hA, h⟩ := h
  obtain ⟨c, d, kA, k⟩ := k
  obtain ⟨rfl, rfl⟩ := hA.unique kA
  rcases h with ⟨h0, rfl⟩ | ⟨h0, rfl⟩ <;> rcases k with ⟨k0, rfl⟩ | ⟨k0, rfl⟩
  · rfl
  · exact absurd k0 h0
  · exact absurd h0 k0
  · rfl
set_option maxHeartbeats 800000 in
theorem refused_any (s : ByteArray) (w : World) (hm : s.size ≤ maxLen) (hN : NsA s 0 false) : Calls Tryz.prog 15 #[.string s] w fun e w' => e = .returned (.bool true) ∧ Mod (fun _ => False) w w' := by
  rcases hN with ⟨hs, -⟩ | ⟨hs, a, p, hA, ⟨h0, -⟩ | ⟨-, -, -, hf⟩⟩
  · have h1 := fun w => check_long s w hs hm
    have h2 := fun w => needs_long s w hs hm
    have h3 := fun w => run_long s ⟨#[]⟩ w (.inl hs) hm (by decide)
    have h4 := fun w => cmp_long s w hs hm
    go_enter Tryz.func15, Tryz.ntmps15
    go_wp2_with fail
    refine (h1 _).mono ?_
    rintro e w1 ⟨rfl, rfl⟩
    go_wp2_with fail
    refine (h2 _).mono ?_
    rintro e w2 ⟨rfl, rfl⟩
    go_wp2_with fail
    refine (h3 _).mono ?_
    rintro e w3 ⟨rfl, rfl⟩
    go_wp2_with fail
    refine (h4 _).mono ?_
    rintro e w4 ⟨rfl, rfl⟩
    clear h1 h2 h3 h4
    go_wp2_with fail
    go_ret
    exact ⟨rfl, Mod.refl _ _⟩
  · have h1 := fun w => check_any s w hs
    have h2 := fun w => needs_any s w hs
    have h3 := fun w => run_any s ⟨#[]⟩ w hs (by decide)
    have h4 := fun w => cmp_any s w hs
    have HA : Hid _ := hA
    have hb : ((a : Int) != 0) = true := by rw [bne_iff_ne]; omega
    clear hA
    go_enter Tryz.func15, Tryz.ntmps15
    go_wp2_with fail
    refine (h1 _).mono ?_
    rintro e w1 ⟨⟨a1, b1, hA1, rfl⟩, k1⟩
    obtain ⟨rfl, rfl⟩ := hA1.unique HA.out
    clear hA1
    go_wp2_with fail
    refine (h2 _).mono ?_
    rintro e w2 ⟨⟨n2, a2, hN2, rfl⟩, k2⟩
    obtain ⟨rfl, rfl⟩ := hN2.unique (show NdA s 0 a1 from ⟨b1, HA.out, .inl ⟨h0, rfl⟩⟩)
    clear hN2
    go_wp2_with fail
    refine (h3 _).mono ?_
    rintro e w3 ⟨k3, r3, hr3, rfl⟩
    obtain rfl := hr3.bad HA.out h0
    clear hr3
    go_wp2_with fail
    refine (h4 _).mono ?_
    rintro e w4 ⟨k4, r4, hr4, rfl⟩
    obtain rfl := hr4.unique (show CmpA s (⟨#[]⟩, a2) from ⟨a2, b1, HA.out, .inl ⟨h0, rfl⟩⟩)
    have hmE := k1.trans (k2.trans (k3.trans k4))
    clear hr4 h1 h2 h3 h4 k1 k2 k3 k4
    go_wp2_with fail
    go_ret
    exact ⟨rfl, hmE⟩
  · cases hf
end Go.Proofs.YtmnfndpbblpjiabGreatDoor
