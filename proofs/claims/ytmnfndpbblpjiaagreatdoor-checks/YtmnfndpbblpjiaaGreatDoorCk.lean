/- Check on both sides. -/
import Derived.Test.YtmnfndpbblpjiaaGreatDoorUn
import Derived.Test.YtmnfndpbblpjiaaGreatDoorRf2
import Derived.Test.YtmnfndpbblpjiaaGreatDoorRfa
namespace Go.Proofs.YtmnfndpbblpjiaaGreatDoor
open Go.RowKit Pu

/-- What both answer of a text that is not too long: an error and a place. -/
def Ans (s : ByteArray) (a b : Nat) : Prop :=
  (Stuck s b ∧ a = 2) ∨
  (Whole s ∧ ∃ (p : List (St × Nat)) (hk : b < (gaA s s.size).l.length), Ok p ∧ sts p = (gaA s s.size).l.take b ∧ err p (gaA s s.size).l[b] ≠ 0 ∧ a = err p (gaA s s.size).l[b]) ∨
  (Whole s ∧ a = 0 ∧ b = 0 ∧ ∃ p, Ok p ∧ sts p = (gaA s s.size).l)

/-- Right beginnings with their weights are what they are. -/
theorem Ok.unique : ∀ {p r : List (St × Nat)}, Ok p → Ok r → ∀ n, n ≤ p.length → n ≤ r.length → (sts p).take n = (sts r).take n → p.take n = r.take n := by
  intro p r hp hr n
  induction n with
  | zero => intros; simp
  | succ n ih =>
    intro h1 h2 he
    have e' : (sts p).take n = (sts r).take n := by
      have := congrArg (List.take n) he
      simpa [List.take_take] using this
    have hih := ih (by omega) (by omega) e'
    have hn1 : n < p.length := by omega
    have hn2 : n < r.length := by omega
    have hx : p[n].1 = r[n].1 := by
      have := congrArg (fun l : List St => l[n]?) he
      simpa [sts, hn1, hn2] using this
    have hw : p[n].2 = r[n].2 := by rw [(hp n hn1).2, (hr n hn2).2, hih, hx]
    rw [take_snoc' p n hn1, take_snoc' r n hn2, hih, Prod.ext hx hw]

theorem Ans.unique {s : ByteArray} {a b c d : Nat} (h : Ans s a b) (k : Ans s c d) : a = c ∧ b = d := by
  have lens : ∀ {p : List (St × Nat)} {n : Nat}, sts p = (gaA s s.size).l.take n → n < (gaA s s.size).l.length → p.length = n := fun {p n} h1 h2 => by
    have := congrArg List.length h1; simp [sts] at this; omega
  have eqs : ∀ {p r : List (St × Nat)} {m n : Nat}, Ok p → Ok r → sts p = (gaA s s.size).l.take m → sts r = (gaA s s.size).l.take n → m ≤ n → p.length = m → m ≤ r.length → p = r.take m := fun {p r m n} o1 o2 h1 h2 hmn hpl hrl => by
    have := Ok.unique o1 o2 m (by omega) hrl (by rw [h1, h2, List.take_take, List.take_take]; congr 1; omega)
    rwa [List.take_of_length_le (by omega)] at this
  rcases h with ⟨hs, rfl⟩ | ⟨hw, p, hk, hok, hp, he, rfl⟩ | ⟨hw, rfl, rfl, p, hok, hp⟩
  · rcases k with ⟨ks, rfl⟩ | ⟨kw, _⟩ | ⟨kw, _⟩
    · exact ⟨rfl, hs.unique ks⟩
    · exact (hs.not_whole kw).elim
    · exact (hs.not_whole kw).elim
  · rcases k with ⟨ks, rfl⟩ | ⟨kw, r, kk, kok, kp, ke, rfl⟩ | ⟨kw, rfl, rfl, r, kok, kp⟩
    · exact (ks.not_whole hw).elim
    · have l1 := lens hp hk
      have l2 := lens kp kk
      rcases Nat.lt_trichotomy b d with hbd | hbd | hbd
      · have := eqs hok kok hp kp (by omega) l1 (by omega)
        have hx := (kok b (by omega)).1
        rw [← this] at hx
        have hxe : r[b].1 = (gaA s s.size).l[b] := by
          have h1 : (sts r)[b]? = ((gaA s s.size).l.take d)[b]? := by rw [kp]
          simp [sts, show b < r.length by omega, hk, hbd] at h1
          exact h1
        rw [hxe] at hx
        exact (he hx).elim
      · subst hbd
        have := eqs hok kok hp kp (Nat.le_refl _) l1 (by omega)
        rw [List.take_of_length_le (by omega)] at this
        subst this
        exact ⟨rfl, rfl⟩
      · have := eqs kok hok kp hp (by omega) l2 (by omega)
        have hx := (hok d (by omega)).1
        rw [← this] at hx
        have hxe : p[d].1 = (gaA s s.size).l[d] := by
          have h1 : (sts p)[d]? = ((gaA s s.size).l.take b)[d]? := by rw [hp]
          simp [sts, show d < p.length by omega, kk, hbd] at h1
          exact h1
        rw [hxe] at hx
        exact (ke hx).elim
    · exfalso
      have l1 := lens hp hk
      have l2 : r.length = (gaA s s.size).l.length := by have := congrArg List.length kp; simpa [sts] using this
      have := eqs (n := (gaA s s.size).l.length) hok kok hp (by rw [kp, List.take_length]) (by omega) l1 (by omega)
      have hx := (kok b (by omega)).1
      rw [← this] at hx
      have hxe : r[b].1 = (gaA s s.size).l[b] := by
        have h1 : (sts r)[b]? = ((gaA s s.size).l)[b]? := by rw [kp]
        simp [sts, show b < r.length by omega, hk] at h1
        exact h1
      rw [hxe] at hx
      exact he hx
  · rcases k with ⟨ks, rfl⟩ | ⟨kw, r, kk, kok, kp, ke, rfl⟩ | ⟨kw, rfl, rfl, r, kok, kp⟩
    · exact (ks.not_whole hw).elim
    · exfalso
      have l1 := lens kp kk
      have l2 : p.length = (gaA s s.size).l.length := by have := congrArg List.length hp; simpa [sts] using this
      have := eqs (n := (gaA s s.size).l.length) kok hok kp (by rw [hp, List.take_length]) (by omega) l1 (by omega)
      have hx := (hok d (by omega)).1
      rw [← this] at hx
      have hxe : p[d].1 = (gaA s s.size).l[d] := by
        have h1 : (sts p)[d]? = ((gaA s s.size).l)[d]? := by rw [hp]
        simp [sts, show d < p.length by omega, kk] at h1
        exact h1
      rw [hxe] at hx
      exact ke hx
    · exact ⟨rfl, rfl⟩

set_option maxHeartbeats 400000 in
theorem check_long (s : ByteArray) (w : World) (hs : 300 < s.size) (hm : s.size ≤ maxLen) : Calls Tryz.prog 36 #[.string s] w fun e w' => e = .returned (.tuple #[.int .i64 1, .int .i64 0]) ∧ w = w' := by
  go_enter Tryz.func36, Tryz.ntmps36
  go_wp2_with fail
  refine (und_long s w hs hm).mono ?_
  rintro e w2 ⟨rfl, rfl⟩
  go_wp2_with fail
  go_ret2
  exact ⟨rfl, rfl⟩

set_option maxHeartbeats 400000 in
theorem check_any (s : ByteArray) (w : World) (hs : s.size ≤ 300) : Calls Tryz.prog 36 #[.string s] w fun e w' => (∃ a b : Nat, Ans s a b ∧ e = .returned (.tuple #[.int .i64 a, .int .i64 b])) ∧ Mod (fun _ => False) w w' := by
  go_enter Tryz.func36, Tryz.ntmps36
  go_wp2_with fail
  refine (und_any s w hs).mono ?_
  rintro e w2 ⟨hm, ⟨k, hst, rfl⟩ | ⟨hw, p, k, hk, hok, hp, he, rfl⟩ | ⟨hw, v, q, hok, hq, hL, hle, rfl⟩⟩
  · go_wp2_with fail
    go_ret2
    exact ⟨⟨2, k, .inl ⟨hst, rfl⟩, rfl⟩, hm⟩
  · have HA : Hid (Ans s (err p (gaA s s.size).l[k]) k) := .inr (.inl ⟨hw, p, hk, hok, hp, he, rfl⟩)
    generalize err p (gaA s s.size).l[k] = er at *
    clear hp
    go_wp2_with fail
    go_ret2
    exact ⟨⟨er, k, HA.out, rfl⟩, hm⟩
  · have HA : Hid (Ans s 0 0) := .inr (.inr ⟨hw, rfl, rfl, pq q, hok, by rw [sts_pq]; exact hq⟩)
    clear hq
    go_wp2_with fail
    go_ret2
    exact ⟨⟨0, 0, HA.out, rfl⟩, hm⟩
end Go.Proofs.YtmnfndpbblpjiaaGreatDoor
