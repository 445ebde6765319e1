/- Weights and faults: plain functions over the statements ahead and their weights. -/
import Derived.Test.YtmnfndpbblpjiaaGreatDoorPu2
namespace Go.Proofs.YtmnfndpbblpjiaaGreatDoor.Pu

def sts (p : List (St × Nat)) : List St := p.map Prod.fst
theorem sts_len (p : List (St × Nat)) : (sts p).length = p.length := by simp [sts]
def who (p : List (St × Nat)) (nm : Nat) : Option (St × Nat) := p.find? (fun y => y.1.name == nm)
def argW (p : List (St × Nat)) (nm : Nat) : Nat := ((who p nm).map Prod.snd).getD 0
def argWord (p : List (St × Nat)) (nm : Nat) : List UInt8 := ((who p nm).map (fun y => y.1.word)).getD []

theorem who_of {p : List (St × Nat)} {nm k : Nat} (hk : k < p.length) (h : gvI (sts p) nm = (k : Int)) : who p nm = some p[k] := by
  rcases gvI_cases (sts p) nm with ⟨h1, _⟩ | ⟨k', hk', h1, h2, h3⟩
  · omega
  · have : k' = k := by omega
    subst this
    unfold who
    rw [List.find?_eq_some_iff_getElem]
    refine ⟨by simpa [sts] using h2, k', hk, rfl, fun j hj => ?_⟩
    simpa [sts] using h3 j hj
theorem given_lt {p : List (St × Nat)} {nm : Nat} (h : gvI (sts p) nm ≠ -1) : ∃ k, ∃ hk : k < p.length, gvI (sts p) nm = (k : Int) ∧ p[k].1.name = nm := by
  rcases gvI_cases (sts p) nm with ⟨h1, _⟩ | ⟨k', hk', h1, h2, h3⟩
  · exact absurd h1 h
  · exact ⟨k', by simpa [sts] using hk', h1, by simpa [sts] using h2⟩

def sumW (p : List (St × Nat)) (ag : List UInt8) : Nat := (ag.map fun a => argW p a.toNat).sum
def lastW (p : List (St × Nat)) (ag : List UInt8) : Nat := (ag.getLast?.map fun a => argW p a.toNat).getD 0
theorem sumW_snoc (p : List (St × Nat)) (ag : List UInt8) (a : UInt8) : sumW p (ag ++ [a]) = sumW p ag + argW p a.toNat := by simp [sumW]
theorem lastW_snoc (p : List (St × Nat)) (ag : List UInt8) (a : UInt8) : lastW p (ag ++ [a]) = argW p a.toNat := by simp [lastW]
def wgh (p : List (St × Nat)) (x : St) : Nat := if x.name = 0 then 0 else wG x.word (sumW p x.args) (lastW p x.args)

/-- The arguments are names that are given; the name isn't. -/
def namesOk (l : List St) (x : St) : Bool := x.args.all (fun a => gvI l a.toNat != -1) && (x.name == 0 || gvI l x.name == -1)
/-- The sorts, by what the document's table says of the givers' words. -/
def sortsOk (p : List (St × Nat)) (ag so : List UInt8) : Bool := (ag.zip so).all fun y => (fm (argWord p y.1.toNat)).2 == y.2.toNat
def sortsOkG (p : List (St × Nat)) (ag so : List UInt8) : Bool := (ag.zip so).all fun y => sG (argWord p y.1.toNat) == y.2.toNat
def known (x : St) : Bool := (fm x.word).2 != 0 && (decide ((fm x.word).2 = 63) == decide (x.name = 0))

def err (p : List (St × Nat)) (x : St) : Nat :=
  if known x = false then 3
  else if x.args.length ≠ (fm x.word).1.length then 4
  else if namesOk (sts p) x = false then 5
  else if sortsOk p x.args (fm x.word).1 = false then 6
  else if 64 < wgh p x then 7
  else 0

/-- All are right, and bear their weights. -/
def Ok (p : List (St × Nat)) : Prop := ∀ j (hj : j < p.length), err (p.take j) p[j].1 = 0 ∧ p[j].2 = wgh (p.take j) p[j].1
theorem Ok.nil : Ok [] := fun j hj => by simp at hj
theorem Ok.snoc {p : List (St × Nat)} {x : St} (h : Ok p) (he : err p x = 0) : Ok (p ++ [(x, wgh p x)]) := by
  intro j hj
  by_cases hl : j < p.length
  · have := h j hl
    rw [List.take_append_of_le_length (by omega), List.getElem_append_left hl]
    exact this
  · have : j = p.length := by simp at hj; omega
    subst this
    simp [he]

theorem err_zero {p : List (St × Nat)} {x : St} (h : err p x = 0) : known x = true ∧ x.args.length = (fm x.word).1.length ∧ namesOk (sts p) x = true ∧ sortsOk p x.args (fm x.word).1 = true ∧ wgh p x ≤ 64 := by
  unfold err at h
  by_cases h1 : known x = false
  · simp [h1] at h
  · by_cases h2 : x.args.length ≠ (fm x.word).1.length
    · simp [h1, h2] at h
    · by_cases h3 : namesOk (sts p) x = false
      · simp [h1, h2, h3] at h
      · by_cases h4 : sortsOk p x.args (fm x.word).1 = false
        · simp [h1, h2, h3, h4] at h
        · by_cases h5 : 64 < wgh p x
          · simp [h1, h2, h3, h4, h5] at h
          · exact ⟨by simpa using h1, by simpa using h2, by simpa using h3, by simpa using h4, by omega⟩

theorem Ok.weight {p : List (St × Nat)} (h : Ok p) {j : Nat} (hj : j < p.length) : p[j].2 ≤ 64 := by
  obtain ⟨h1, h2⟩ := h j hj
  rw [h2]; exact (err_zero h1).2.2.2.2
theorem Ok.argW {p : List (St × Nat)} (h : Ok p) (nm : Nat) : argW p nm ≤ 64 := by
  unfold Pu.argW who
  cases hf : p.find? (fun y => y.1.name == nm) with
  | none => simp
  | some y =>
    obtain ⟨j, hj, rfl⟩ := List.getElem_of_mem (List.mem_of_find?_eq_some hf)
    simpa using h.weight hj
theorem Ok.sumW {p : List (St × Nat)} (h : Ok p) (ag : List UInt8) : sumW p ag ≤ 64 * ag.length := by
  induction ag with
  | nil => simp [Pu.sumW]
  | cons a ag ih =>
    have := h.argW a.toNat
    simp only [Pu.sumW, List.map_cons, List.sum_cons, List.length_cons] at *
    omega
theorem Ok.lastW {p : List (St × Nat)} (h : Ok p) (ag : List UInt8) : lastW p ag ≤ 64 := by
  unfold Pu.lastW
  cases ag.getLast? with
  | none => simp
  | some a => simpa using h.argW a.toNat

theorem fm_len (w : List UInt8) : (fm w).1.length ≤ 4 := by
  have key : ∀ (b : Bool) (x y : List UInt8 × Nat), x.1.length ≤ 4 → y.1.length ≤ 4 → (if b then x else y).1.length ≤ 4 := fun b x y hx hy => by cases b <;> simp [hx, hy]
  unfold fm
  repeat' (refine key _ _ _ ?_ ?_)
  all_goals decide

/-- Where names are letters both tables of sorts say the same. -/
theorem sorts_same {p : List (St × Nat)} (h : Ok p) {ag so : List UInt8} (hg : ∀ a ∈ ag, gvI (sts p) a.toNat ≠ -1) (hz : ∀ a ∈ ag, a.toNat ≠ 0) : sortsOkG p ag so = sortsOk p ag so := by
  unfold sortsOkG sortsOk
  rw [Bool.eq_iff_iff, List.all_eq_true, List.all_eq_true]
  have key : ∀ y ∈ ag.zip so, sG (argWord p y.1.toNat) = (fm (argWord p y.1.toNat)).2 := by
    intro y hy
    have ha : y.1 ∈ ag := (List.of_mem_zip hy).1
    obtain ⟨k, hk, h1, h2⟩ := given_lt (hg _ ha)
    have hw := who_of hk h1
    have hword : argWord p y.1.toNat = p[k].1.word := by simp [argWord, hw]
    have hkn := (err_zero (h k hk).1).1
    unfold known at hkn
    have hn0 : p[k].1.name ≠ 0 := by rw [h2]; exact hz _ ha
    simp [hn0] at hkn
    rw [hword]
    exact sG_fm _ hkn.2 hkn.1
  constructor
  · intro H y hy; rw [← key y hy]; exact H y hy
  · intro H y hy; rw [key y hy]; exact H y hy

end Go.Proofs.YtmnfndpbblpjiaaGreatDoor.Pu
