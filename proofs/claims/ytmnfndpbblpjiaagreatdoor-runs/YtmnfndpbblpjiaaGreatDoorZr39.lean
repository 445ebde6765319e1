/- Right steps are good ones; the range of inputs: plain. -/
import Derived.Test.YtmnfndpbblpjiaaGreatDoorZr05
import Derived.Test.YtmnfndpbblpjiaaGreatDoorZr19
namespace Go.Proofs.YtmnfndpbblpjiaaGreatDoor
open Go.RowKit Pu
theorem Pu.right_good {l : List Stp} {k : Nat} {t : Stp} {regs ins : Nat} (hs : Small t) (hr : regs ≤ 128) (h : rightB l k t regs ins = true) : Good ins t := by
 unfold rightB at h
 rw [proper_fit] at h
 simp only [Bool.and_eq_true,decide_eq_true_eq,List.all_eq_true] at h
 obtain ⟨⟨ho,hx⟩,hr2⟩ := h
 have h7 : t.op ≤ 7 := by
  refine Nat.le_of_not_lt fun hh => ?_
  simp [opFit,show ¬ t.op = 0 by omega,show ¬ t.op = 1 by omega,show ¬ t.op = 2 by omega,show ¬ t.op = 3 by omega,show ¬ t.op = 4 by omega,show ¬ t.op = 5 by omega,show ¬ t.op = 6 by omega,show ¬ t.op = 7 by omega] at ho
 refine ⟨hs,h7,by omega,fun h => ?_,fun h => ?_,fun h => ?_,fun h => ?_⟩
 ·have := (hr2 t.y (by simp [readsOf,h])).1; omega
 ·have := (hr2 t.z (by simp [readsOf,h])).1; omega
 ·simp [opFit,h] at ho; exact ho.1
 ·simp [opFit,h] at ho; exact ho
theorem Pu.inpSt_range {s : ByteArray} : ∀ (k f : Nat) (l : List Int),inpSt s k = some (f,l) → ∀ x ∈ l,-99 ≤ x ∧ x ≤ 99 := by
 intro k
 induction k with
 | zero => intro f l h; simp [inpSt] at h; rw [h.2]; intro x hx; cases hx
 | succ k ih =>
  intro f l h
  simp only [inpSt] at h
  split at h
  ·cases h
  ·rename_i f' l' hk
   split at h
   ·split at h
    ·rename_i n hn
     simp at h
     obtain ⟨-,rfl⟩ := h
     intro x hx
     rcases List.mem_append.1 hx with hx | hx
     ·exact ih f' l' hk x hx
     ·simp at hx; subst hx; exact numer_range hn
    ·cases h
   ·simp at h
    obtain ⟨-,rfl⟩ := h
    exact ih f' l' hk
theorem Pu.inps_range {s : ByteArray} {l : List Int} (h : inps s = some l) : ∀ x ∈ l,-100 < x ∧ x < 100 := by
 unfold inps at h
 split at h
 ·simp at h; subst h; intro x hx; cases hx
 ·simp at h
  obtain ⟨f,hf⟩ := h
  intro x hx
  have := inpSt_range _ f l hf x hx
  omega
end Go.Proofs.YtmnfndpbblpjiaaGreatDoor

/- Of the statements of a source: how many there are, and that their words stand in it: plain. -/
namespace Go.Proofs.YtmnfndpbblpjiaaGreatDoor.Pu
theorem nx_inv {y x : Sc} {c : Nat} (h : nx y c = some x) :
  (y.st = 0 ∧ y.n ≠ 16 ∧ c = 63 ∧ x = ⟨2,y.n,y.le,y.ar⟩) ∨ (y.st = 0 ∧ y.n ≠ 16 ∧ isL c = true ∧ x = ⟨1,y.n,y.le,y.ar⟩) ∨ (y.st = 1 ∧ c = 61 ∧ x = ⟨2,y.n,y.le,y.ar⟩) ∨ (y.st = 2 ∧ isL c = true ∧ x = ⟨3,y.n,1,y.ar⟩) ∨
  (y.st = 3 ∧ isL c = true ∧ x = ⟨3,y.n,y.le + 1,y.ar⟩) ∨ (y.st = 3 ∧ c = 40 ∧ x = ⟨4,y.n,y.le,0⟩) ∨ (y.st = 4 ∧ isL c = true ∧ x = ⟨5,y.n,y.le,y.ar + 1⟩) ∨ (y.st = 4 ∧ c = 41 ∧ x = ⟨7,y.n,y.le,y.ar⟩) ∨
  (y.st = 5 ∧ c = 41 ∧ x = ⟨7,y.n,y.le,y.ar⟩) ∨ (y.st = 5 ∧ c = 44 ∧ x = ⟨6,y.n,y.le,y.ar⟩) ∨ (y.st = 6 ∧ isL c = true ∧ x = ⟨5,y.n,y.le,y.ar + 1⟩) ∨ (y.st = 7 ∧ c = 59 ∧ x = ⟨0,y.n + 1,y.le,y.ar⟩) := by
 unfold nx at h
 by_cases h0 : y.st = 0
 ·rw [if_pos h0] at h
  by_cases h1 : y.n = 16
  ·simp [h1] at h
  ·by_cases h2 : c = 63
   ·simp [h1,h2] at h; simp [h0,h1,h2,h]
   ·by_cases h3 : isL c = true
    ·simp [h1,h2,h3] at h; simp [h0,h1,h3,h]
    ·simp [h1,h2,h3] at h
 rw [if_neg h0] at h
 by_cases h1 : y.st = 1
 ·rw [if_pos h1] at h
  by_cases h2 : c = 61
  ·simp [h2] at h; simp [h1,h2,h]
  ·simp [h2] at h
 rw [if_neg h1] at h
 by_cases h2 : y.st = 2
 ·rw [if_pos h2] at h
  by_cases h3 : isL c = true
  ·simp [h3] at h; simp [h2,h3,h]
  ·simp [h3] at h
 rw [if_neg h2] at h
 by_cases h3 : y.st = 3
 ·rw [if_pos h3] at h
  by_cases h4 : isL c && decide (y.le < 6)
  ·rw [if_pos h4] at h
   simp at h4 h
   simp [h3,h4.1,h]
  ·rw [if_neg h4] at h
   by_cases h5 : c = 40
   ·simp [h5] at h; simp [h3,h5,h]
   ·simp [h5] at h
 rw [if_neg h3] at h
 by_cases h4 : y.st = 4
 ·rw [if_pos h4] at h
  by_cases h5 : isL c = true
  ·simp [h5] at h; simp [h4,h5,h]
  ·by_cases h6 : c = 41
   ·simp [h6,isL] at h; simp [h4,h6,h]
   ·simp [h5,h6] at h
 rw [if_neg h4] at h
 by_cases h5 : y.st = 5
 ·rw [if_pos h5] at h
  by_cases h6 : c = 41
  ·simp [h6] at h; simp [h5,h6,h]
  ·by_cases h7 : c = 44 ∧ y.ar < 4
   ·simp [h7] at h; simp [h5,h7.1,h]
   ·rw [if_neg h6,if_neg h7] at h; cases h
 rw [if_neg h5] at h
 by_cases h6 : y.st = 6
 ·rw [if_pos h6] at h
  by_cases h7 : isL c = true
  ·simp [h7] at h; simp [h6,h7,h]
  ·simp [h7] at h
 rw [if_neg h6] at h
 by_cases h7 : y.st = 7
 ·rw [if_pos h7] at h
  by_cases h8 : c = 59
  ·simp [h8] at h; simp [h7,h8,h]
  ·simp [h8] at h
 ·rw [if_neg h7] at h; cases h
def InS (s : ByteArray) (i : Nat) (wd : List UInt8) : Prop := i + wd.length ≤ s.size ∧ ∀ j (hj : j < wd.length),bt s (i + j) = wd[j]
theorem InS.nil (s : ByteArray) {i : Nat} (h : i ≤ s.size) : InS s i [] := ⟨by simpa using h,fun j hj => by simp at hj⟩
theorem InS.snoc {s : ByteArray} {i : Nat} {wd : List UInt8} (h : InS s i wd) (hk : i + wd.length < s.size) : InS s i (wd ++ [bt s (i + wd.length)]) := by
 refine ⟨by simp; omega,fun j hj => ?_⟩
 by_cases e : j < wd.length
 ·rw [List.getElem_append_left e]; exact h.2 j e
 ·have : j = wd.length := by simp at hj; omega
  subst this
  simp
structure GaI (s : ByteArray) (k : Nat) (x : Sc) : Prop where
 cnt : (gaA s k).l.length = x.n
 n16 : x.n ≤ 16 ∧ (x.st ≠ 0 → x.n < 16)
 ins : (gaA s k).ins = true ↔ (x.st = 4 ∨ x.st = 5 ∨ x.st = 6)
 old : ∀ y ∈ (gaA s k).l,∃ i,InS s i y.word
 wd2 : x.st = 2 → (gaA s k).x.word = []
 wd3 : x.st = 3 → (gaA s k).x.word.length ≤ k ∧ InS s (k - (gaA s k).x.word.length) (gaA s k).x.word
 wd4 : 4 ≤ x.st → ∃ i,InS s i (gaA s k).x.word
theorem ga_inv (s : ByteArray) : ∀ (k : Nat) (x : Sc),k ≤ s.size → stA s k = some x → GaI s k x := by
 intro k
 induction k with
 | zero =>
  intro x _ h
  have : x = ⟨0,0,0,0⟩ := (Option.some.inj h).symm
  subst this
  exact ⟨rfl,⟨by decide,fun h => absurd rfl h⟩,by simp [gaA],fun y hy => by simp [gaA] at hy,fun h => by simp at h,fun h => by simp at h,fun h => by simp at h⟩
 | succ k ih =>
  intro x hk h
  obtain ⟨y,hy,hn⟩ := stA_back h
  obtain ⟨c1,c2,c3,c4,c5,c6,c7⟩ := ih y (by omega) hy
  have hl : isL (g s k) = true → 97 ≤ g s k ∧ g s k ≤ 122 := (isL_iff _).1
  have hA : gaA s (k + 1) = gaStep s k (gaA s k) := rfl
  rcases nx_inv hn with ⟨a,b,c,rfl⟩ | ⟨a,b,c,rfl⟩ | ⟨a,c,rfl⟩ | ⟨a,c,rfl⟩ | ⟨a,c,rfl⟩ | ⟨a,c,rfl⟩ | ⟨a,c,rfl⟩ | ⟨a,c,rfl⟩ | ⟨a,c,rfl⟩ | ⟨a,c,rfl⟩ | ⟨a,c,rfl⟩ | ⟨a,c,rfl⟩
  ·have hG : gaStep s k (gaA s k) = ⟨(gaA s k).l,⟨(gaA s k).x.name,[],(gaA s k).x.args⟩,(gaA s k).ins⟩ := by simp [gaStep,c]
   constructor
   all_goals (simp only [hA,hG])
   ·exact c1
   ·exact ⟨c2.1,fun _ => by omega⟩
   ·rw [c3]; simp [a]
   ·exact c4
   ·intro _; trivial
   ·intro h; simp at h
   ·intro h; simp at h
  ·have hc := hl c
   have hi : (gaA s k).ins = false := by
    cases hh : (gaA s k).ins with
    | false => rfl
    | true => rw [hh] at c3; simp [a] at c3
   have hG : gaStep s k (gaA s k) = ⟨(gaA s k).l,⟨(gaA s k).x.name,(gaA s k).x.word ++ [bt s k],(gaA s k).x.args⟩,false⟩ := by
    simp [gaStep,c,hi,show g s k ≠ 61 by omega,show g s k ≠ 63 by omega,show g s k ≠ 40 by omega,show g s k ≠ 41 by omega,show g s k ≠ 59 by omega]
   constructor
   all_goals (simp only [hA,hG])
   ·exact c1
   ·exact ⟨c2.1,fun _ => by omega⟩
   ·simp
   ·exact c4
   ·intro h; simp at h
   ·intro h; simp at h
   ·intro h; simp at h
  ·have hG : gaStep s k (gaA s k) = ⟨(gaA s k).l,⟨g s (k - 1),[],(gaA s k).x.args⟩,(gaA s k).ins⟩ := by simp [gaStep,c]
   constructor
   all_goals (simp only [hA,hG])
   ·exact c1
   ·exact ⟨c2.1,fun _ => c2.2 (by omega)⟩
   ·rw [c3]; simp [a]
   ·exact c4
   ·intro _; trivial
   ·intro h; simp at h
   ·intro h; simp at h
  ·have hc := hl c
   have hi : (gaA s k).ins = false := by
    cases hh : (gaA s k).ins with
    | false => rfl
    | true => rw [hh] at c3; simp [a] at c3
   have hw := c5 a
   have hG : gaStep s k (gaA s k) = ⟨(gaA s k).l,⟨(gaA s k).x.name,[bt s k],(gaA s k).x.args⟩,false⟩ := by
    simp [gaStep,c,hi,hw,show g s k ≠ 61 by omega,show g s k ≠ 63 by omega,show g s k ≠ 40 by omega,show g s k ≠ 41 by omega,show g s k ≠ 59 by omega]
   constructor
   all_goals (simp only [hA,hG])
   ·exact c1
   ·exact ⟨c2.1,fun _ => c2.2 (by omega)⟩
   ·simp
   ·exact c4
   ·intro h; simp at h
   ·intro _
    have := (InS.nil s (i := k) (by omega)).snoc (by simp; omega)
    simpa using this
   ·intro h; simp at h
  ·have hc := hl c
   have hi : (gaA s k).ins = false := by
    cases hh : (gaA s k).ins with
    | false => rfl
    | true => rw [hh] at c3; simp [a] at c3
   obtain ⟨w1,w2⟩ := c6 a
   have hG : gaStep s k (gaA s k) = ⟨(gaA s k).l,⟨(gaA s k).x.name,(gaA s k).x.word ++ [bt s k],(gaA s k).x.args⟩,false⟩ := by
    simp [gaStep,c,hi,show g s k ≠ 61 by omega,show g s k ≠ 63 by omega,show g s k ≠ 40 by omega,show g s k ≠ 41 by omega,show g s k ≠ 59 by omega]
   constructor
   all_goals (simp only [hA,hG])
   ·exact c1
   ·exact ⟨c2.1,fun _ => c2.2 (by omega)⟩
   ·simp
   ·exact c4
   ·intro h; simp at h
   ·intro _
    have e : k - (gaA s k).x.word.length + (gaA s k).x.word.length = k := by omega
    have := w2.snoc (by omega)
    rw [e] at this
    refine ⟨by simp; omega,?_⟩
    rw [show k + 1 - ((gaA s k).x.word ++ [bt s k]).length = k - (gaA s k).x.word.length by simp]
    exact this
   ·intro h; simp at h
  ·have hG : gaStep s k (gaA s k) = ⟨(gaA s k).l,(gaA s k).x,true⟩ := by simp [gaStep,c]
   constructor
   all_goals (simp only [hA,hG])
   ·exact c1
   ·exact ⟨c2.1,fun _ => c2.2 (by omega)⟩
   ·simp
   ·exact c4
   ·intro h; simp at h
   ·intro h; simp at h
   ·intro _; exact ⟨_,(c6 a).2⟩
  ·have hc := hl c
   have hi : (gaA s k).ins = true := c3.2 (.inl a)
   have hG : gaStep s k (gaA s k) = ⟨(gaA s k).l,⟨(gaA s k).x.name,(gaA s k).x.word,(gaA s k).x.args ++ [bt s k]⟩,true⟩ := by
    simp [gaStep,c,hi,show g s k ≠ 61 by omega,show g s k ≠ 63 by omega,show g s k ≠ 40 by omega,show g s k ≠ 41 by omega,show g s k ≠ 59 by omega]
   constructor
   all_goals (simp only [hA,hG])
   ·exact c1
   ·exact ⟨c2.1,fun _ => c2.2 (by omega)⟩
   ·simp
   ·exact c4
   ·intro h; simp at h
   ·intro h; simp at h
   ·intro _; exact c7 (by omega)
  ·have hG : gaStep s k (gaA s k) = ⟨(gaA s k).l,(gaA s k).x,false⟩ := by simp [gaStep,c]
   constructor
   all_goals (simp only [hA,hG])
   ·exact c1
   ·exact ⟨c2.1,fun _ => c2.2 (by omega)⟩
   ·simp
   ·exact c4
   ·intro h; simp at h
   ·intro h; simp at h
   ·intro _; exact c7 (by omega)
  ·have hG : gaStep s k (gaA s k) = ⟨(gaA s k).l,(gaA s k).x,false⟩ := by simp [gaStep,c]
   constructor
   all_goals (simp only [hA,hG])
   ·exact c1
   ·exact ⟨c2.1,fun _ => c2.2 (by omega)⟩
   ·simp
   ·exact c4
   ·intro h; simp at h
   ·intro h; simp at h
   ·intro _; exact c7 (by omega)
  ·have hG : gaStep s k (gaA s k) = gaA s k := by simp [gaStep,c,isL]
   constructor
   all_goals (simp only [hA,hG])
   ·exact c1
   ·exact ⟨c2.1,fun _ => c2.2 (by omega)⟩
   ·rw [c3]; simp [a]
   ·exact c4
   ·intro h; simp at h
   ·intro h; simp at h
   ·intro _; exact c7 (by omega)
  ·have hc := hl c
   have hi : (gaA s k).ins = true := c3.2 (.inr (.inr a))
   have hG : gaStep s k (gaA s k) = ⟨(gaA s k).l,⟨(gaA s k).x.name,(gaA s k).x.word,(gaA s k).x.args ++ [bt s k]⟩,true⟩ := by
    simp [gaStep,c,hi,show g s k ≠ 61 by omega,show g s k ≠ 63 by omega,show g s k ≠ 40 by omega,show g s k ≠ 41 by omega,show g s k ≠ 59 by omega]
   constructor
   all_goals (simp only [hA,hG])
   ·exact c1
   ·exact ⟨c2.1,fun _ => c2.2 (by omega)⟩
   ·simp
   ·exact c4
   ·intro h; simp at h
   ·intro h; simp at h
   ·intro _; exact c7 (by omega)
  ·have hG : gaStep s k (gaA s k) = ⟨(gaA s k).l ++ [(gaA s k).x],⟨0,[],[]⟩,(gaA s k).ins⟩ := by simp [gaStep,c]
   have h15 := c2.2 (by omega)
   constructor
   all_goals (simp only [hA,hG])
   ·simp [c1]
   ·exact ⟨by omega,fun h => absurd rfl h⟩
   ·rw [c3]; simp [a]
   ·intro z hz
    rcases List.mem_append.1 hz with hz | hz
    ·exact c4 z hz
    ·simp at hz; subst hz; exact c7 (by omega)
   ·intro h; simp at h
   ·intro h; simp at h
   ·intro h; simp at h
theorem whole_count {s : ByteArray} (h : Whole s) : (gaA s s.size).l.length ≤ 16 ∧ ∀ y ∈ (gaA s s.size).l,∃ i,InS s i y.word := by
 obtain ⟨x,hx,-⟩ := h
 have hi := ga_inv s s.size x (Nat.le_refl _) hx
 exact ⟨by rw [hi.cnt]; exact hi.n16.1,hi.old⟩
end Go.Proofs.YtmnfndpbblpjiaaGreatDoor.Pu
