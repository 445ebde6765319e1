/- Proved here: of any source and any text of inputs: what Compile makes is a right code, and Exec of it tells what Run tells, error and all; a source that is refused is refused by all calls with one error; and so the example; no condition (the three listed tables of Go's library are tied to the program's text). -/
import Derived.Test.YtmnfndpbblpjiabGreatDoorZb01
import Derived.Test.YtmnfndpbblpjiabGreatDoorZb32
import Derived.Test.YtmnfndpbblpjiabGreatDoorZb33
import Derived.ChangeMaps5
/- Of the statements of a source: how many there are, and that their words stand in it: plain. -/
namespace Go.Proofs.YtmnfndpbblpjiabGreatDoor.Pu

theorem nx_inv {y x : Sc} {c : Nat} (h : nx y c = some x) :
    (y.st = 0 ∧ y.n ≠ 16 ∧ c = 63 ∧ x = ⟨2, y.n, y.le, y.ar⟩) ∨ (y.st = 0 ∧ y.n ≠ 16 ∧ isL c = true ∧ x = ⟨1, y.n, y.le, y.ar⟩) ∨ (y.st = 1 ∧ c = 61 ∧ x = ⟨2, y.n, y.le, y.ar⟩) ∨ (y.st = 2 ∧ isL c = true ∧ x = ⟨3, y.n, 1, y.ar⟩) ∨
    (y.st = 3 ∧ isL c = true ∧ x = ⟨3, y.n, y.le + 1, y.ar⟩) ∨ (y.st = 3 ∧ c = 40 ∧ x = ⟨4, y.n, y.le, 0⟩) ∨ (y.st = 4 ∧ isL c = true ∧ x = ⟨5, y.n, y.le, y.ar + 1⟩) ∨ (y.st = 4 ∧ c = 41 ∧ x = ⟨7, y.n, y.le, y.ar⟩) ∨
    (y.st = 5 ∧ c = 41 ∧ x = ⟨7, y.n, y.le, y.ar⟩) ∨ (y.st = 5 ∧ c = 44 ∧ x = ⟨6, y.n, y.le, y.ar⟩) ∨ (y.st = 6 ∧ isL c = true ∧ x = ⟨5, y.n, y.le, y.ar + 1⟩) ∨ (y.st = 7 ∧ c = 59 ∧ x = ⟨0, y.n + 1, y.le, y.ar⟩) := by
  unfold nx at h
  by_cases h0 : y.st = 0
  · rw [if_pos h0] at h
    by_cases h1 : y.n = 16
    · simp [h1] at h
    · by_cases h2 : c = 63
      · simp [h1, h2] at h; simp [h0, h1, h2, h]
      · by_cases h3 : isL c = true
        · simp [h1, h2, h3] at h; simp [h0, h1, h3, h]
        · simp [h1, h2, h3] at h
  rw [if_neg h0] at h
  by_cases h1 : y.st = 1
  · rw [if_pos h1] at h
    by_cases h2 : c = 61
    · simp [h2] at h; simp [h1, h2, h]
    · simp [h2] at h
  rw [if_neg h1] at h
  by_cases h2 : y.st = 2
  · rw [if_pos h2] at h
    by_cases h3 : isL c = true
    · simp [h3] at h; simp [h2, h3, h]
    · simp [h3] at h
  rw [if_neg h2] at h
  by_cases h3 : y.st = 3
  · rw [if_pos h3] at h
    by_cases h4 : isL c && decide (y.le < 6)
    · rw [if_pos h4] at h
      simp at h4 h
      simp [h3, h4.1, h]
    · rw [if_neg h4] at h
      by_cases h5 : c = 40
      · simp [h5] at h; simp [h3, h5, h]
      · simp [h5] at h
  rw [if_neg h3] at h
  by_cases h4 : y.st = 4
  · rw [if_pos h4] at h
    by_cases h5 : isL c = true
    · simp [h5] at h; simp [h4, h5, h]
    · by_cases h6 : c = 41
      · simp [h6, isL] at h; simp [h4, h6, h]
      · simp [h5, h6] at h
  rw [if_neg h4] at h
  by_cases h5 : y.st = 5
  · rw [if_pos h5] at h
    by_cases h6 : c = 41
    · simp [h6] at h; simp [h5, h6, h]
    · by_cases h7 : c = 44 ∧ y.ar < 4
      · simp [h7] at h; simp [h5, h7.1, h]
      · rw [if_neg h6, if_neg h7] at h; cases h
  rw [if_neg h5] at h
  by_cases h6 : y.st = 6
  · rw [if_pos h6] at h
    by_cases h7 : isL c = true
    · simp [h7] at h; simp [h6, h7, h]
    · simp [h7] at h
  rw [if_neg h6] at h
  by_cases h7 : y.st = 7
  · rw [if_pos h7] at h
    by_cases h8 : c = 59
    · simp [h8] at h; simp [h7, h8, h]
    · simp [h8] at h
  · rw [if_neg h7] at h; cases h
/-- The bytes wd stand in s from i on. -/
def InS (s : ByteArray) (i : Nat) (wd : List UInt8) : Prop := i + wd.length ≤ s.size ∧ ∀ j (hj : j < wd.length), bt s (i + j) = wd[j]
theorem InS.nil (s : ByteArray) {i : Nat} (h : i ≤ s.size) : InS s i [] := ⟨by simpa using h, fun j hj => by simp at hj⟩
theorem InS.snoc {s : ByteArray} {i : Nat} {wd : List UInt8} (h : InS s i wd) (hk : i + wd.length < s.size) : InS s i (wd ++ [bt s (i + wd.length)]) := by
  refine ⟨by simp; omega, fun j hj => ?_⟩
  by_cases e : j < wd.length
  · rw [List.getElem_append_left e]; exact h.2 j e
  · have : j = wd.length := by simp at hj; omega
    subst this
    simp
/-- What is so of the gathering. -/
structure GaI (s : ByteArray) (k : Nat) (x : Sc) : Prop where
  cnt : (gaA s k).l.length = x.n
  n16 : x.n ≤ 16 ∧ (x.st ≠ 0 → x.n < 16)
  ins : (gaA s k).ins = true ↔ (x.st = 4 ∨ x.st = 5 ∨ x.st = 6)
  old : ∀ y ∈ (gaA s k).l, ∃ i, InS s i y.word
  wd2 : x.st = 2 → (gaA s k).x.word = []
  wd3 : x.st = 3 → (gaA s k).x.word.length ≤ k ∧ InS s (k - (gaA s k).x.word.length) (gaA s k).x.word
  wd4 : 4 ≤ x.st → ∃ i, InS s i (gaA s k).x.word
theorem ga_inv (s : ByteArray) : ∀ (k : Nat) (x : Sc), k ≤ s.size → stA s k = some x → GaI s k x := by
  intro k
  induction k with
  | zero =>
    intro x _ h
    have : x = ⟨0, 0, 0, 0⟩ := (Option.some.inj h).symm
    subst this
    exact ⟨rfl, ⟨by decide, fun h => absurd rfl h⟩, by simp [gaA], fun y hy => by simp [gaA] at hy, fun h => by simp at h, fun h => by simp at h, fun h => by simp at h⟩
  | succ k ih =>
    intro x hk h
    obtain ⟨y, hy, hn⟩ := stA_back h
    obtain ⟨c1, c2, c3, c4, c5, c6, c7⟩ := ih y (by omega) hy
    have hl : isL (g s k) = true → 97 ≤ g s k ∧ g s k ≤ 122 := (isL_iff _).1
    have hA : gaA s (k + 1) = gaStep s k (gaA s k) := rfl
    rcases nx_inv hn with ⟨a, b, c, rfl⟩ | ⟨a, b, c, rfl⟩ | ⟨a, c, rfl⟩ | ⟨a, c, rfl⟩ | ⟨a, c, rfl⟩ | ⟨a, c, rfl⟩ | ⟨a, c, rfl⟩ | ⟨a, c, rfl⟩ | ⟨a, c, rfl⟩ | ⟨a, c, rfl⟩ | ⟨a, c, rfl⟩ | ⟨a, c, rfl⟩
    · have hG : gaStep s k (gaA s k) = ⟨(gaA s k).l, ⟨(gaA s k).x.name, [], (gaA s k).x.args⟩, (gaA s k).ins⟩ := by simp [gaStep, c]
      constructor
      all_goals (simp only [hA, hG])
      · exact c1
      · exact ⟨c2.1, fun _ => by omega⟩
      · rw [c3]; simp [a]
      · exact c4
      · intro _; trivial
      · intro h; simp at h
      · intro h; simp at h
    · have hc := hl c
      have hi : (gaA s k).ins = false := by
        cases hh : (gaA s k).ins with
        | false => rfl
        | true => rw [hh] at c3; simp [a] at c3
      have hG : gaStep s k (gaA s k) = ⟨(gaA s k).l, ⟨(gaA s k).x.name, (gaA s k).x.word ++ [bt s k], (gaA s k).x.args⟩, false⟩ := by
        simp [gaStep, c, hi, show g s k ≠ 61 by omega, show g s k ≠ 63 by omega, show g s k ≠ 40 by omega, show g s k ≠ 41 by omega, show g s k ≠ 59 by omega]
      constructor
      all_goals (simp only [hA, hG])
      · exact c1
      · exact ⟨c2.1, fun _ => by omega⟩
      · simp
      · exact c4
      · intro h; simp at h
      · intro h; simp at h
      · intro h; simp at h
    · have hG : gaStep s k (gaA s k) = ⟨(gaA s k).l, ⟨g s (k - 1), [], (gaA s k).x.args⟩, (gaA s k).ins⟩ := by simp [gaStep, c]
      constructor
      all_goals (simp only [hA, hG])
      · exact c1
      · exact ⟨c2.1, fun _ => c2.2 (by omega)⟩
      · rw [c3]; simp [a]
      · exact c4
      · intro _; trivial
      · intro h; simp at h
      · intro h; simp at h
    · have hc := hl c
      have hi : (gaA s k).ins = false := by
        cases hh : (gaA s k).ins with
        | false => rfl
        | true => rw [hh] at c3; simp [a] at c3
      have hw := c5 a
      have hG : gaStep s k (gaA s k) = ⟨(gaA s k).l, ⟨(gaA s k).x.name, [bt s k], (gaA s k).x.args⟩, false⟩ := by
        simp [gaStep, c, hi, hw, show g s k ≠ 61 by omega, show g s k ≠ 63 by omega, show g s k ≠ 40 by omega, show g s k ≠ 41 by omega, show g s k ≠ 59 by omega]
      constructor
      all_goals (simp only [hA, hG])
      · exact c1
      · exact ⟨c2.1, fun _ => c2.2 (by omega)⟩
      · simp
      · exact c4
      · intro h; simp at h
      · intro _
        have := (InS.nil s (i := k) (by omega)).snoc (by simp; omega)
        simpa using this
      · intro h; simp at h
    · have hc := hl c
      have hi : (gaA s k).ins = false := by
        cases hh : (gaA s k).ins with
        | false => rfl
        | true => rw [hh] at c3; simp [a] at c3
      obtain ⟨w1, w2⟩ := c6 a
      have hG : gaStep s k (gaA s k) = ⟨(gaA s k).l, ⟨(gaA s k).x.name, (gaA s k).x.word ++ [bt s k], (gaA s k).x.args⟩, false⟩ := by
        simp [gaStep, c, hi, show g s k ≠ 61 by omega, show g s k ≠ 63 by omega, show g s k ≠ 40 by omega, show g s k ≠ 41 by omega, show g s k ≠ 59 by omega]
      constructor
      all_goals (simp only [hA, hG])
      · exact c1
      · exact ⟨c2.1, fun _ => c2.2 (by omega)⟩
      · simp
      · exact c4
      · intro h; simp at h
      · intro _
        have e : k - (gaA s k).x.word.length + (gaA s k).x.word.length = k := by omega
        have := w2.snoc (by omega)
        rw [e] at this
        refine ⟨by simp; omega, ?_⟩
        rw [show k + 1 - ((gaA s k).x.word ++ [bt s k]).length = k - (gaA s k).x.word.length by simp]
        exact this
      · intro h; simp at h
    · have hG : gaStep s k (gaA s k) = ⟨(gaA s k).l, (gaA s k).x, true⟩ := by simp [gaStep, c]
      constructor
      all_goals (simp only [hA, hG])
      · exact c1
      · exact ⟨c2.1, fun _ => c2.2 (by omega)⟩
      · simp
      · exact c4
      · intro h; simp at h
      · intro h; simp at h
      · intro _; exact ⟨_, (c6 a).2⟩
    · have hc := hl c
      have hi : (gaA s k).ins = true := c3.2 (.inl a)
      have hG : gaStep s k (gaA s k) = ⟨(gaA s k).l, ⟨(gaA s k).x.name, (gaA s k).x.word, (gaA s k).x.args ++ [bt s k]⟩, true⟩ := by
        simp [gaStep, c, hi, show g s k ≠ 61 by omega, show g s k ≠ 63 by omega, show g s k ≠ 40 by omega, show g s k ≠ 41 by omega, show g s k ≠ 59 by omega]
      constructor
      all_goals (simp only [hA, hG])
      · exact c1
      · exact ⟨c2.1, fun _ => c2.2 (by omega)⟩
      · simp
      · exact c4
      · intro h; simp at h
      · intro h; simp at h
      · intro _; exact c7 (by omega)
    · have hG : gaStep s k (gaA s k) = ⟨(gaA s k).l, (gaA s k).x, false⟩ := by simp [gaStep, c]
      constructor
      all_goals (simp only [hA, hG])
      · exact c1
      · exact ⟨c2.1, fun _ => c2.2 (by omega)⟩
      · simp
      · exact c4
      · intro h; simp at h
      · intro h; simp at h
      · intro _; exact c7 (by omega)
    · have hG : gaStep s k (gaA s k) = ⟨(gaA s k).l, (gaA s k).x, false⟩ := by simp [gaStep, c]
      constructor
      all_goals (simp only [hA, hG])
      · exact c1
      · exact ⟨c2.1, fun _ => c2.2 (by omega)⟩
      · simp
      · exact c4
      · intro h; simp at h
      · intro h; simp at h
      · intro _; exact c7 (by omega)
    · have hG : gaStep s k (gaA s k) = gaA s k := by simp [gaStep, c, isL]
      constructor
      all_goals (simp only [hA, hG])
      · exact c1
      · exact ⟨c2.1, fun _ => c2.2 (by omega)⟩
      · rw [c3]; simp [a]
      · exact c4
      · intro h; simp at h
      · intro h; simp at h
      · intro _; exact c7 (by omega)
    · have hc := hl c
      have hi : (gaA s k).ins = true := c3.2 (.inr (.inr a))
      have hG : gaStep s k (gaA s k) = ⟨(gaA s k).l, ⟨(gaA s k).x.name, (gaA s k).x.word, (gaA s k).x.args ++ [bt s k]⟩, true⟩ := by
        simp [gaStep, c, hi, show g s k ≠ 61 by omega, show g s k ≠ 63 by omega, show g s k ≠ 40 by omega, show g s k ≠ 41 by omega, show g s k ≠ 59 by omega]
      constructor
      all_goals (simp only [hA, hG])
      · exact c1
      · exact ⟨c2.1, fun _ => c2.2 (by omega)⟩
      · simp
      · exact c4
      · intro h; simp at h
      · intro h; simp at h
      · intro _; exact c7 (by omega)
    · have hG : gaStep s k (gaA s k) = ⟨(gaA s k).l ++ [(gaA s k).x], ⟨0, [], []⟩, (gaA s k).ins⟩ := by simp [gaStep, c]
      have h15 := c2.2 (by omega)
      constructor
      all_goals (simp only [hA, hG])
      · simp [c1]
      · exact ⟨by omega, fun h => absurd rfl h⟩
      · rw [c3]; simp [a]
      · intro z hz
        rcases List.mem_append.1 hz with hz | hz
        · exact c4 z hz
        · simp at hz; subst hz; exact c7 (by omega)
      · intro h; simp at h
      · intro h; simp at h
      · intro h; simp at h
theorem whole_count {s : ByteArray} (h : Whole s) : (gaA s s.size).l.length ≤ 16 ∧ ∀ y ∈ (gaA s s.size).l, ∃ i, InS s i y.word := by
  obtain ⟨x, hx, -⟩ := h
  have hi := ga_inv s s.size x (Nat.le_refl _) hx
  exact ⟨by rw [hi.cnt]; exact hi.n16.1, hi.old⟩
end Go.Proofs.YtmnfndpbblpjiabGreatDoor.Pu

/- rulerkeep: the example, the needs, the refusals. -/
namespace Go.Proofs.YtmnfndpbblpjiabGreatDoor
open Go.RowKit Pu

theorem awk_run : RunA awkS (jnL [0, 0, 1, 1, 2, 2]) (⟨#[49, 48, 49]⟩, 0) := by
  have h := RunA_of awk_whole awk_ok awk_ga awk_cmds (ins := [0, 0, 1, 1, 2, 2]) (by decide) rfl
  have e : semC [0, 0, 1, 1, 2, 2] awkC 0 0 [] ⟨#[]⟩ = ⟨#[49, 48, 49]⟩ := by kernel_rfl
  rwa [e] at h
def awkI : ByteArray := ⟨#[48, 44, 48, 44, 49, 44, 49, 44, 50, 44, 50]⟩
theorem awkI_eq : jnL [0, 0, 1, 1, 2, 2] = awkI := by kernel_rfl
set_option maxHeartbeats 400000 in
set_option maxRecDepth 100000 in
theorem awake_any (w : World) : Calls Tryz.prog 13 #[] w fun e w' => e = .returned (.bool true) ∧ Mod (fun _ => False) w w' := by
  have hR := awk_run
  rw [awkI_eq] at hR
  have h := tells_any awkS awkI ⟨#[49, 48, 49]⟩ w (by decide) (by decide) hR
  clear hR
  go_enter Tryz.func13, Tryz.ntmps13
  go_wp2_with fail
  refine h.mono ?_
  rintro e w1 ⟨rfl, k1⟩
  clear h
  go_wp2_with fail
  go_ret
  exact ⟨rfl, k1⟩
/-- What needs tells of a source. -/
def NsA (s : ByteArray) (n : Nat) (b : Bool) : Prop := (300 < s.size ∧ n = 0 ∧ b = false) ∨ (s.size ≤ 300 ∧ ∃ a p, Ans s a p ∧ ((a ≠ 0 ∧ n = 0 ∧ b = false) ∨ (a = 0 ∧ n = ndR (gaA s s.size).l ∧ n ≤ 32 ∧ b = true)))
theorem ndR_even (l : List St) : ndR l % 2 = 0 := by
  induction l with
  | nil => rfl
  | cons x l ih =>
    simp only [ndR, List.map_cons, List.sum_cons] at *
    have : ptR x = 0 ∨ ptR x = 2 := by unfold ptR; split <;> simp
    omega
set_option maxHeartbeats 800000 in
theorem kneeds_any (s : ByteArray) (w : World) (hm : s.size ≤ maxLen) : Calls Tryz.prog 14 #[.string s] w fun e w' => Mod (fun _ => False) w w' ∧ ∃ n b, NsA s n b ∧ e = .returned (.tuple #[.int .i64 (n : Nat), .bool b]) := by
  by_cases hs : s.size ≤ 300
  · have h := needs_any s w hs
    go_enter Tryz.func14, Tryz.ntmps14
    go_wp2_with fail
    refine h.mono ?_
    rintro e w1 ⟨⟨n, a, hN, rfl⟩, hm1⟩
    clear h
    obtain ⟨p, hA, hc⟩ := hN
    rcases hc with ⟨h0, rfl⟩ | ⟨rfl, hn⟩
    · have HN : Hid (NsA s 0 false) := .inr ⟨hs, a, p, hA, .inl ⟨h0, rfl, rfl⟩⟩
      have hb : ((a : Int) == 0) = false := by rw [beq_eq_false_iff_ne]; omega
      clear h0 hA
      go_wp2_with fail
      go_ret2
      exact ⟨hm1, 0, false, HN.out, rfl⟩
    · have hW : Whole s := hA.zero.1
      have hl := (whole_count hW).1
      have h2 := ndR_le (gaA s s.size).l
      have h3 := ndR_even (gaA s s.size).l
      have hn32 : n ≤ 32 := by omega
      have HN : Hid (NsA s n true) := .inr ⟨hs, 0, p, hA, .inr ⟨rfl, hn, hn32, rfl⟩⟩
      have q1 : ((n : Int)).tmod 2 = 0 := by rw [Int.tmod_eq_emod_of_nonneg (by omega)]; omega
      have q2 : ((n : Int)) ≤ 32 := by omega
      clear hA hW hl h2 h3 hn hn32
      go_wp2_with fail
      go_ret2
      exact ⟨hm1, n, true, HN.out, rfl⟩
  · have h := needs_long s w (by omega) hm
    have HN : Hid (NsA s 0 false) := .inl ⟨by omega, rfl, rfl⟩
    go_enter Tryz.func14, Tryz.ntmps14
    go_wp2_with fail
    refine h.mono ?_
    rintro e w1 ⟨rfl, rfl⟩
    clear h
    go_wp2_with fail
    go_ret2
    exact ⟨Mod.refl _ _, 0, false, HN.out, rfl⟩
theorem RunA.bad {s inp : ByteArray} {r : ByteArray × Nat} {a b : Nat} (h : RunA s inp r) (hA : Ans s a b) (h0 : a ≠ 0) : r = (⟨#[]⟩, a) := h.unique ⟨a, b, hA, .inl ⟨h0, rfl⟩⟩
theorem CmpA.unique {s : ByteArray} {r t : ByteArray × Nat} (h : CmpA s r) (k : CmpA s t) : r = t := by
  obtain ⟨a, b, hA, h⟩ := h
  obtain ⟨c, d, kA, k⟩ := k
  obtain ⟨rfl, rfl⟩ := hA.unique kA
  rcases h with ⟨h0, rfl⟩ | ⟨h0, rfl⟩ <;> rcases k with ⟨k0, rfl⟩ | ⟨k0, rfl⟩
  · rfl
  · exact absurd k0 h0
  · exact absurd h0 k0
  · rfl
set_option maxHeartbeats 800000 in
theorem refused_any (s : ByteArray) (w : World) (hm : s.size ≤ maxLen) (hN : NsA s 0 false) : Calls Tryz.prog 15 #[.string s] w fun e w' => e = .returned (.bool true) ∧ Mod (fun _ => False) w w' := by
  rcases hN with ⟨hs, -⟩ | ⟨hs, a, p, hA, ⟨h0, -⟩ | ⟨-, -, -, hf⟩⟩
  · have h1 := fun w => check_long s w hs hm
    have h2 := fun w => needs_long s w hs hm
    have h3 := fun w => run_long s ⟨#[]⟩ w (.inl hs) hm (by decide)
    have h4 := fun w => cmp_long s w hs hm
    go_enter Tryz.func15, Tryz.ntmps15
    go_wp2_with fail
    refine (h1 _).mono ?_
    rintro e w1 ⟨rfl, rfl⟩
    go_wp2_with fail
    refine (h2 _).mono ?_
    rintro e w2 ⟨rfl, rfl⟩
    go_wp2_with fail
    refine (h3 _).mono ?_
    rintro e w3 ⟨rfl, rfl⟩
    go_wp2_with fail
    refine (h4 _).mono ?_
    rintro e w4 ⟨rfl, rfl⟩
    clear h1 h2 h3 h4
    go_wp2_with fail
    go_ret
    exact ⟨rfl, Mod.refl _ _⟩
  · have h1 := fun w => check_any s w hs
    have h2 := fun w => needs_any s w hs
    have h3 := fun w => run_any s ⟨#[]⟩ w hs (by decide)
    have h4 := fun w => cmp_any s w hs
    have HA : Hid _ := hA
    have hb : ((a : Int) != 0) = true := by rw [bne_iff_ne]; omega
    clear hA
    go_enter Tryz.func15, Tryz.ntmps15
    go_wp2_with fail
    refine (h1 _).mono ?_
    rintro e w1 ⟨⟨a1, b1, hA1, rfl⟩, k1⟩
    obtain ⟨rfl, rfl⟩ := hA1.unique HA.out
    clear hA1
    go_wp2_with fail
    refine (h2 _).mono ?_
    rintro e w2 ⟨⟨n2, a2, hN2, rfl⟩, k2⟩
    obtain ⟨rfl, rfl⟩ := hN2.unique (show NdA s 0 a1 from ⟨b1, HA.out, .inl ⟨h0, rfl⟩⟩)
    clear hN2
    go_wp2_with fail
    refine (h3 _).mono ?_
    rintro e w3 ⟨k3, r3, hr3, rfl⟩
    obtain rfl := hr3.bad HA.out h0
    clear hr3
    go_wp2_with fail
    refine (h4 _).mono ?_
    rintro e w4 ⟨k4, r4, hr4, rfl⟩
    obtain rfl := hr4.unique (show CmpA s (⟨#[]⟩, a2) from ⟨a2, b1, HA.out, .inl ⟨h0, rfl⟩⟩)
    have hmE := k1.trans (k2.trans (k3.trans k4))
    clear hr4 h1 h2 h3 h4 k1 k2 k3 k4
    go_wp2_with fail
    go_ret
    exact ⟨rfl, hmE⟩
  · cases hf
end Go.Proofs.YtmnfndpbblpjiabGreatDoor

/- rulerkeep's Means. -/
namespace Go.Proofs.YtmnfndpbblpjiabGreatDoor
open Go.RowKit Pu

/-- What is made of a right source, as a code. -/
structure Cod (s : ByteArray) (c : ByteArray) : Prop where
  cmp : CmpA s (c, 0)
  size : c.size ≤ 8006
  vfy : vfy c = (0, 0)
  run : ∀ inp, RunA s inp (rnS (gaA s s.size).l inp)
  exe : ∀ (B nn : Nat), B = 10 ^ nn → nn = 8000 → ∀ inp, exe B c inp = rnS (gaA s s.size).l inp
theorem cod_any {s : ByteArray} {b : Nat} (h : Ans s 0 b) : ∃ c, Cod s c := by
  have hA := h
  obtain ⟨hW, rfl, p, hok, hp⟩ := h.zero
  have hl : p.length ≤ 16 := by
    have h1 := (whole_count hW).1
    rw [← hp, sts_len] at h1
    exact h1
  have hM := Pu.made_any hok hl
  have hv : Pu.vfy ⟨(joined 128 (cntI (cmds (sts p))) (cmdsL (cmds (sts p)) 0 0)).toArray⟩ = (0, 0) :=
    join_vfy (by omega) (by omega) hM.n32 (by have := hM.len; omega) (okG_small _ _ hM.ok) (okG_okL _ _ hM.ok)
  refine ⟨⟨(joined 128 (cntI (cmds (sts p))) (cmdsL (cmds (sts p)) 0 0)).toArray⟩, ⟨0, 0, hA, .inr ⟨rfl, by rw [hp]⟩⟩, ?_, hv, fun inp => ⟨0, 0, hA, .inr ⟨rfl, rfl⟩⟩, fun B nn hB hn inp => ?_⟩
  · rw [join_size]; have := hM.len; omega
  · rw [exe_stt hv, join_i (by have := hM.n32; omega), join_steps (okG_small _ _ hM.ok), stt_rn hB hn hok hl, hp]
set_option maxHeartbeats 1600000 in
set_option maxRecDepth 4000 in
theorem means_walk (s inp : ByteArray) (w : World) (hs : s.size ≤ maxLen) (hi : inp.size ≤ maxLen) : Calls Tryz.prog 7 #[.string s, .string inp] w fun e w' => e = .returned (.bool true) ∧ Mod (fun _ => False) w w' := by
  have haw := awake_any w
  have hnd := fun w => kneeds_any s w hs
  go_enter Tryz.func7, Tryz.ntmps7
  go_wp2_with fail
  refine haw.mono ?_
  rintro e w1 ⟨rfl, k1⟩
  clear haw
  go_wp2_with fail
  refine (hnd _).mono ?_
  rintro e w2 ⟨k2, n, b, hN, rfl⟩
  clear hnd
  have hm2 := k1.trans k2
  clear k1 k2
  cases b with
  | false =>
    have hN0 : NsA s 0 false := by
      rcases hN with ⟨a1, a2, a3⟩ | ⟨a0, a, p, a1, ⟨a2, a3, a4⟩ | ⟨a2, a3, a4, a5⟩⟩
      · exact .inl ⟨a1, rfl, rfl⟩
      · exact .inr ⟨a0, a, p, a1, .inl ⟨a2, rfl, rfl⟩⟩
      · cases a5
    have hrf := fun w => refused_any s w hs hN0
    clear hN hN0
    go_wp2_with fail
    refine (hrf _).mono ?_
    rintro e w3 ⟨rfl, k3⟩
    have hm3 := hm2.trans k3
    clear hrf
    go_wp2_with fail
    go_ret
    exact ⟨rfl, hm3⟩
  | true =>
    obtain ⟨hs3, p, hA⟩ : s.size ≤ 300 ∧ ∃ p, Ans s 0 p := by
      rcases hN with ⟨a1, a2, a3⟩ | ⟨a0, a, p, a1, ⟨a2, a3, a4⟩ | ⟨a2, a3, a4, a5⟩⟩
      · cases a3
      · cases a4
      · subst a2; exact ⟨a0, p, a1⟩
    obtain ⟨c, hC⟩ := cod_any hA
    have HC : Hid _ := hC
    have h1 := fun w => cmp_any s w hs3
    have h2 := fun w => verify_any c w hC.size
    rw [hC.vfy] at h2
    have hcs := hC.size
    clear hN hA hC
    go_wp2_with fail
    refine (h1 _).mono ?_
    rintro e w3 ⟨k3, r3, hr3, rfl⟩
    obtain rfl := hr3.unique HC.out.cmp
    clear hr3 h1
    go_wp2_with fail
    refine (h2 _).mono ?_
    rintro e w4 ⟨rfl, k4⟩
    clear h2
    have hm4 := hm2.trans (k3.trans k4)
    clear hm2 k3 k4
    by_cases hi2 : inp.size ≤ 140
    · obtain ⟨nn, hnn⟩ : ∃ nn : Nat, nn = 8000 := ⟨8000, rfl⟩
      obtain ⟨B, hB⟩ : ∃ B : Nat, B = 10 ^ nn := ⟨_, rfl⟩
      have h3 := fun w => run_any s inp w hs3 hi2
      have h4 := fun w => exec_any B nn hB hnn c inp w hcs hi2
      rw [HC.out.exe B nn hB hnn inp] at h4
      have HR : Hid (RunA s inp (rnS (gaA s s.size).l inp)) := HC.out.run inp
      generalize rnS (gaA s s.size).l inp = rr at *
      clear hB hnn HC
      go_wp2_with fail
      refine (h3 _).mono ?_
      rintro e w5 ⟨k5, r5, hr5, rfl⟩
      obtain rfl := hr5.unique HR.out
      clear hr5 h3
      go_wp2_with fail
      refine (h4 _).mono ?_
      rintro e w6 ⟨rfl, k6⟩
      have hmE := hm4.trans (k5.trans k6)
      clear h4 k5 k6 hm4 HR
      go_wp2_with fail
      go_ret
      exact ⟨rfl, hmE⟩
    · have h3 := fun w => run_long s inp w (.inr (by omega)) hs hi
      have h4 := fun w => exec_long c inp w (.inr (by omega)) (by unfold maxLen; omega) hi
      clear HC
      go_wp2_with fail
      refine (h3 _).mono ?_
      rintro e w5 ⟨rfl, rfl⟩
      clear h3
      go_wp2_with fail
      refine (h4 _).mono ?_
      rintro e w6 ⟨rfl, rfl⟩
      clear h4
      go_wp2_with fail
      go_ret
      exact ⟨rfl, hm4⟩
end Go.Proofs.YtmnfndpbblpjiabGreatDoor

namespace Go.Proofs.YtmnfndpbblpjiabGreatDoor
open Go.ChangeShapes Go.WideShapes Go.ChangeAt Go.RowKit Go.Deep Go.Joins

theorem means_laid (os : Os) : laidMet Tryz.prog Rows.meansRow.laid ((laidOn (World.holding Tryz.prog os ⟨#[], #[], []⟩)).forCall (fun _ _ => 0) ⟨#[], #[.string ⟨#[]⟩, .string ⟨#[]⟩], []⟩).memory :=
  laidMet_of_run' 8 (by kernel_rfl) (by kernel_rfl)
/-- No parameter wants a stand-in; the program's own looks are off. -/
theorem means_plain {name : String} {k : FuncId} {fk : Func} (hk : Tryz.prog.funcNamed name = some k) (hfk : Tryz.prog.funcs[k]? = some fk) (hp : fk.params = #[9, 9]) (f : FuncId) (fn : Func) (hf : Tryz.pinned.checked.prog.funcNamed name = some f) (hfn : Tryz.pinned.checked.prog.funcs[f]? = some fn) :
    false = Tryz.pinned.checked.prog.looks [] ∧ ∀ (j : Nat) t, fn.params[j]? = some t → Tryz.pinned.checked.prog.wantsStandIn t = false := by
  obtain rfl : f = k := Option.some.inj (hk.symm.trans hf) |>.symm
  obtain rfl : fn = fk := (Option.some.inj (hfk.symm.trans hfn)).symm
  refine ⟨by kernel_rfl, fun j t ht => ?_⟩
  rw [hp] at ht
  obtain rfl : t = 9 := by simpa using Array.mem_of_getElem? ht
  exact (show Tryz.prog.wantsStandIn 9 = false by kernel_rfl)
set_option maxRecDepth 100000 in
theorem means_reads (os : Os) {H : Type} (enc : TypeId × Value → H) : ∃ places, DataW.whole enc Tryz.prog ((laidOn (World.holding Tryz.prog os ⟨#[], #[], []⟩)).forCall (fun _ _ => 0) ⟨#[], #[.string ⟨#[]⟩, .string ⟨#[]⟩], []⟩).memory Tryz.f7.params.toList Rows.meansSpec.vars false #[.string ⟨#[]⟩, .string ⟨#[]⟩].toList 8 = some ([.lit (.string []), .lit (.string [])], [], places) :=
  ⟨[], by kernel_rfl⟩

set_option maxRecDepth 100000 in
theorem means_lifted (os : Os) (started : os.Started) (H : Type) (enc : TypeId × Value → H) (F : Stop.Interp) :
    ReturnsInHanded {} Tryz.checked os 7 .any ((OpenSpec.ofChange Rows.meansSpec).preRow enc Tryz.prog Tryz.f7 Rows.meansRow.domain false Rows.meansRow.laid) (((OpenSpec.ofChange Rows.meansSpec).at F).post enc Tryz.prog Tryz.f7 false true false false) := by
  obtain ⟨places, hx⟩ := means_reads os enc
  refine returnsInHanded_of_row (C := Tryz.checked) (s := OpenSpec.ofChange Rows.meansSpec) Tryz.own started (by kernel_rfl) Tryz.func7
    (witness_row_at (enc := enc) (C := Tryz.checked) false (laidOn (World.holding Tryz.prog os ⟨#[], #[], []⟩)) #[.string ⟨#[]⟩, .string ⟨#[]⟩] rfl (by kernel_rfl) (by kernel_rfl) (by kernel_rfl)
      (OpenSpec.preRow_of_cond 8 hx (by kernel_rfl) (fun k hk => by cases hk) (by kernel_rfl) (means_laid os))) ?_
  intro W base args ds gs before hval0 hW _ _ _ _ _ _
  have hval : ∀ (j : Nat) t v, Tryz.f7.params[j]? = some t → args[j]? = some v → Value.okWide Tryz.prog W .any base t v := hval0
  have hW' := hW
  obtain ⟨p, q, hA0, hV, rfl, _, _⟩ := hW
  have hA : DataW.TrodAll enc Tryz.prog W 0 (fun _ => true) true Tryz.f7.params.toList args.toList ds p := hA0
  rw [Tryz.params7] at hA hval
  obtain ⟨v0, v1, d0, d1, p0, p1, rfl, rfl, rfl, h0, h1⟩ := trodAll_two hA
  obtain ⟨rfl, rfl⟩ := trodVars_none hV
  clear hA0 hval0
  simp only [List.append_nil] at hW'
  have hlt : ∀ x ∈ p0 ++ p1, x.block < W.heap.size := fun x hx => by simpa using hW'.lt x (by simpa using hx)
  have h0k := h0
  obtain ⟨s0, rfl, -, -, z0⟩ := ChangeMaps.open_string Tryz.underlying9 (hval 0 9 v0 rfl rfl) h0
  have h1k := h1
  obtain ⟨s1, rfl, -, -, z1⟩ := ChangeMaps.open_string Tryz.underlying9 (hval 1 9 v1 rfl rfl) h1
  refine (means_walk s0 s1 W z0 z1).mono fun e W' ⟨he, hm⟩ => ?_
  subst he
  exact ⟨_, rfl, ⟨_, _, _, [], _, [], hW', trodAll_mk1 (shut_bool Tryz.underlying4 true), trodAll_mk2 (Below.trod Tryz.laidOut (by kernel_rfl) (of_decide_eq_true (by kernel_rfl)) h0k hm.below (fun x hx => hlt x (by simp [hx]))) (Below.trod Tryz.laidOut (by kernel_rfl) (of_decide_eq_true (by kernel_rfl)) h1k hm.below (fun x hx => hlt x (by simp [hx]))), rfl, hm.below.frame _, fun h => by cases h⟩⟩

theorem means_said : Rows.MeansSaid :=
  OpenClaim.holds_of_cond 7 Tryz.f7 rfl rfl rfl rfl rfl rfl rfl ⟨rfl, rfl, rfl, rfl, rfl⟩ rfl rfl rfl rfl rfl (by kernel_rfl) Tryz.func7 (by kernel_rfl)
    (of_decide_eq_true (by kernel_rfl)) (by unfold Func.isWrapper; first | (rw [if_pos (by decide +kernel)]; kernel_rfl) | (rw [if_neg (by decide +kernel)]; exact ⟨rfl, rfl⟩))
    (fun os started H enc _ F => by rw [OpenClaim.pre_eq_preRow]; exact means_lifted os started H enc F)

theorem means_holds : Rows.MeansCardSaid :=
  Claim7.holds_tied_plain_at .later [] _ _ _ _ means_said (fun _ h => by cases h) (by kernel_rfl) (fun _ h => by cases h) means_row_tie rfl ⟨rfl, rfl⟩ (by kernel_rfl) rfl (means_plain (by kernel_rfl) Tryz.func7 Tryz.params7) (by kernel_rfl)
end Go.Proofs.YtmnfndpbblpjiabGreatDoor
