/- Words, sorts, weights, faults: plain functions. -/
import Derived.Test.YtmnfndpbblpjiaaGreatDoorPure
namespace Go.Proofs.YtmnfndpbblpjiaaGreatDoor.Pu

/-- A word's arguments and what it gives (80 a point, 76 a line, 63 an answer, 0: there is none). -/
def fm (w : List UInt8) : List UInt8 × Nat :=
  if w == [112, 116] then ([], 80) else
  if w == [109, 105, 100] then ([80, 80], 80) else
  if w == [108, 105, 110, 101] then ([80, 80], 76) else
  if w == [112, 97, 114] then ([80, 76], 76) else
  if w == [112, 101, 114, 112] then ([80, 76], 76) else
  if w == [109, 101, 101, 116] then ([76, 76], 80) else
  if w == [102, 111, 111, 116] then ([80, 76], 80) else
  if w == [109, 105, 114, 114, 111, 114] then ([80, 76], 80) else
  if w == [99, 101, 110, 116, 114, 101] then ([80, 80, 80], 80) else
  if w == [115, 97, 109, 101] then ([80, 80], 63) else
  if w == [99, 111, 108] then ([80, 80, 80], 63) else
  if w == [99, 99, 119] then ([80, 80, 80], 63) else
  if w == [98, 116, 119] then ([80, 80, 80], 63) else
  if w == [99, 111, 110] then ([80, 80, 80, 80], 63) else
  if w == [111, 110] then ([80, 76], 63) else
  if w == [112, 108, 108] then ([76, 76], 63) else
  if w == [112, 114, 112] then ([76, 76], 63) else
  if w == [99, 99] then ([76, 76, 76], 63) else ([], 0)
def qT (w : List UInt8) : List UInt8 × Bool :=
  if w == [115, 97, 109, 101] then ([80, 80], true) else
  if w == [99, 111, 108] then ([80, 80, 80], true) else
  if w == [99, 99, 119] then ([80, 80, 80], true) else
  if w == [98, 116, 119] then ([80, 80, 80], true) else
  if w == [99, 111, 110] then ([80, 80, 80, 80], true) else
  if w == [111, 110] then ([80, 76], true) else
  if w == [112, 108, 108] then ([76, 76], true) else
  if w == [112, 114, 112] then ([76, 76], true) else
  if w == [99, 99] then ([76, 76, 76], true) else ([], false)
def cT (w : List UInt8) : List UInt8 × Bool :=
  if w == [112, 116] then ([], true) else
  if w == [109, 105, 100] then ([80, 80], true) else
  if w == [108, 105, 110, 101] then ([80, 80], true) else
  if w == [112, 97, 114] then ([80, 76], true) else
  if w == [112, 101, 114, 112] then ([80, 76], true) else
  if w == [109, 101, 101, 116] then ([76, 76], true) else
  if w == [102, 111, 111, 116] then ([80, 76], true) else
  if w == [109, 105, 114, 114, 111, 114] then ([80, 76], true) else
  if w == [99, 101, 110, 116, 114, 101] then ([80, 80, 80], true) else ([], false)
def sG (w : List UInt8) : Nat :=
  if w == [108, 105, 110, 101] then 76 else if w == [112, 97, 114] then 76 else if w == [112, 101, 114, 112] then 76 else 80
def wG (w : List UInt8) (sum last : Nat) : Nat :=
  if w == [112, 116] then 1 else if w == [102, 111, 111, 116] then sum + last else if w == [109, 105, 114, 114, 111, 114] then 2 * sum else if w == [99, 101, 110, 116, 114, 101] then 4 * sum else sum

theorem qT_fm (w : List UInt8) : ((qT w).2 = true ↔ (fm w).2 = 63) ∧ ((qT w).2 = true → (qT w).1 = (fm w).1) := by
  by_cases h0 : w = [112, 116]
  · subst h0; first | decide | (intros; decide)
  by_cases h1 : w = [109, 105, 100]
  · subst h1; first | decide | (intros; decide)
  by_cases h2 : w = [108, 105, 110, 101]
  · subst h2; first | decide | (intros; decide)
  by_cases h3 : w = [112, 97, 114]
  · subst h3; first | decide | (intros; decide)
  by_cases h4 : w = [112, 101, 114, 112]
  · subst h4; first | decide | (intros; decide)
  by_cases h5 : w = [109, 101, 101, 116]
  · subst h5; first | decide | (intros; decide)
  by_cases h6 : w = [102, 111, 111, 116]
  · subst h6; first | decide | (intros; decide)
  by_cases h7 : w = [109, 105, 114, 114, 111, 114]
  · subst h7; first | decide | (intros; decide)
  by_cases h8 : w = [99, 101, 110, 116, 114, 101]
  · subst h8; first | decide | (intros; decide)
  by_cases h9 : w = [115, 97, 109, 101]
  · subst h9; first | decide | (intros; decide)
  by_cases h10 : w = [99, 111, 108]
  · subst h10; first | decide | (intros; decide)
  by_cases h11 : w = [99, 99, 119]
  · subst h11; first | decide | (intros; decide)
  by_cases h12 : w = [98, 116, 119]
  · subst h12; first | decide | (intros; decide)
  by_cases h13 : w = [99, 111, 110]
  · subst h13; first | decide | (intros; decide)
  by_cases h14 : w = [111, 110]
  · subst h14; first | decide | (intros; decide)
  by_cases h15 : w = [112, 108, 108]
  · subst h15; first | decide | (intros; decide)
  by_cases h16 : w = [112, 114, 112]
  · subst h16; first | decide | (intros; decide)
  by_cases h17 : w = [99, 99]
  · subst h17; first | decide | (intros; decide)
  simp [qT, fm, show (w == [112, 116]) = false from beq_eq_false_iff_ne.2 h0, show (w == [109, 105, 100]) = false from beq_eq_false_iff_ne.2 h1, show (w == [108, 105, 110, 101]) = false from beq_eq_false_iff_ne.2 h2, show (w == [112, 97, 114]) = false from beq_eq_false_iff_ne.2 h3, show (w == [112, 101, 114, 112]) = false from beq_eq_false_iff_ne.2 h4, show (w == [109, 101, 101, 116]) = false from beq_eq_false_iff_ne.2 h5, show (w == [102, 111, 111, 116]) = false from beq_eq_false_iff_ne.2 h6, show (w == [109, 105, 114, 114, 111, 114]) = false from beq_eq_false_iff_ne.2 h7, show (w == [99, 101, 110, 116, 114, 101]) = false from beq_eq_false_iff_ne.2 h8, show (w == [115, 97, 109, 101]) = false from beq_eq_false_iff_ne.2 h9, show (w == [99, 111, 108]) = false from beq_eq_false_iff_ne.2 h10, show (w == [99, 99, 119]) = false from beq_eq_false_iff_ne.2 h11, show (w == [98, 116, 119]) = false from beq_eq_false_iff_ne.2 h12, show (w == [99, 111, 110]) = false from beq_eq_false_iff_ne.2 h13, show (w == [111, 110]) = false from beq_eq_false_iff_ne.2 h14, show (w == [112, 108, 108]) = false from beq_eq_false_iff_ne.2 h15, show (w == [112, 114, 112]) = false from beq_eq_false_iff_ne.2 h16, show (w == [99, 99]) = false from beq_eq_false_iff_ne.2 h17]
theorem cT_fm (w : List UInt8) : ((cT w).2 = true ↔ (fm w).2 ≠ 63 ∧ (fm w).2 ≠ 0) ∧ ((cT w).2 = true → (cT w).1 = (fm w).1) := by
  by_cases h0 : w = [112, 116]
  · subst h0; first | decide | (intros; decide)
  by_cases h1 : w = [109, 105, 100]
  · subst h1; first | decide | (intros; decide)
  by_cases h2 : w = [108, 105, 110, 101]
  · subst h2; first | decide | (intros; decide)
  by_cases h3 : w = [112, 97, 114]
  · subst h3; first | decide | (intros; decide)
  by_cases h4 : w = [112, 101, 114, 112]
  · subst h4; first | decide | (intros; decide)
  by_cases h5 : w = [109, 101, 101, 116]
  · subst h5; first | decide | (intros; decide)
  by_cases h6 : w = [102, 111, 111, 116]
  · subst h6; first | decide | (intros; decide)
  by_cases h7 : w = [109, 105, 114, 114, 111, 114]
  · subst h7; first | decide | (intros; decide)
  by_cases h8 : w = [99, 101, 110, 116, 114, 101]
  · subst h8; first | decide | (intros; decide)
  by_cases h9 : w = [115, 97, 109, 101]
  · subst h9; first | decide | (intros; decide)
  by_cases h10 : w = [99, 111, 108]
  · subst h10; first | decide | (intros; decide)
  by_cases h11 : w = [99, 99, 119]
  · subst h11; first | decide | (intros; decide)
  by_cases h12 : w = [98, 116, 119]
  · subst h12; first | decide | (intros; decide)
  by_cases h13 : w = [99, 111, 110]
  · subst h13; first | decide | (intros; decide)
  by_cases h14 : w = [111, 110]
  · subst h14; first | decide | (intros; decide)
  by_cases h15 : w = [112, 108, 108]
  · subst h15; first | decide | (intros; decide)
  by_cases h16 : w = [112, 114, 112]
  · subst h16; first | decide | (intros; decide)
  by_cases h17 : w = [99, 99]
  · subst h17; first | decide | (intros; decide)
  simp [cT, fm, show (w == [112, 116]) = false from beq_eq_false_iff_ne.2 h0, show (w == [109, 105, 100]) = false from beq_eq_false_iff_ne.2 h1, show (w == [108, 105, 110, 101]) = false from beq_eq_false_iff_ne.2 h2, show (w == [112, 97, 114]) = false from beq_eq_false_iff_ne.2 h3, show (w == [112, 101, 114, 112]) = false from beq_eq_false_iff_ne.2 h4, show (w == [109, 101, 101, 116]) = false from beq_eq_false_iff_ne.2 h5, show (w == [102, 111, 111, 116]) = false from beq_eq_false_iff_ne.2 h6, show (w == [109, 105, 114, 114, 111, 114]) = false from beq_eq_false_iff_ne.2 h7, show (w == [99, 101, 110, 116, 114, 101]) = false from beq_eq_false_iff_ne.2 h8, show (w == [115, 97, 109, 101]) = false from beq_eq_false_iff_ne.2 h9, show (w == [99, 111, 108]) = false from beq_eq_false_iff_ne.2 h10, show (w == [99, 99, 119]) = false from beq_eq_false_iff_ne.2 h11, show (w == [98, 116, 119]) = false from beq_eq_false_iff_ne.2 h12, show (w == [99, 111, 110]) = false from beq_eq_false_iff_ne.2 h13, show (w == [111, 110]) = false from beq_eq_false_iff_ne.2 h14, show (w == [112, 108, 108]) = false from beq_eq_false_iff_ne.2 h15, show (w == [112, 114, 112]) = false from beq_eq_false_iff_ne.2 h16, show (w == [99, 99]) = false from beq_eq_false_iff_ne.2 h17]
theorem sG_fm (w : List UInt8) : (fm w).2 ≠ 63 → (fm w).2 ≠ 0 → sG w = (fm w).2 := by
  by_cases h0 : w = [112, 116]
  · subst h0; first | decide | (intros; decide)
  by_cases h1 : w = [109, 105, 100]
  · subst h1; first | decide | (intros; decide)
  by_cases h2 : w = [108, 105, 110, 101]
  · subst h2; first | decide | (intros; decide)
  by_cases h3 : w = [112, 97, 114]
  · subst h3; first | decide | (intros; decide)
  by_cases h4 : w = [112, 101, 114, 112]
  · subst h4; first | decide | (intros; decide)
  by_cases h5 : w = [109, 101, 101, 116]
  · subst h5; first | decide | (intros; decide)
  by_cases h6 : w = [102, 111, 111, 116]
  · subst h6; first | decide | (intros; decide)
  by_cases h7 : w = [109, 105, 114, 114, 111, 114]
  · subst h7; first | decide | (intros; decide)
  by_cases h8 : w = [99, 101, 110, 116, 114, 101]
  · subst h8; first | decide | (intros; decide)
  by_cases h9 : w = [115, 97, 109, 101]
  · subst h9; first | decide | (intros; decide)
  by_cases h10 : w = [99, 111, 108]
  · subst h10; first | decide | (intros; decide)
  by_cases h11 : w = [99, 99, 119]
  · subst h11; first | decide | (intros; decide)
  by_cases h12 : w = [98, 116, 119]
  · subst h12; first | decide | (intros; decide)
  by_cases h13 : w = [99, 111, 110]
  · subst h13; first | decide | (intros; decide)
  by_cases h14 : w = [111, 110]
  · subst h14; first | decide | (intros; decide)
  by_cases h15 : w = [112, 108, 108]
  · subst h15; first | decide | (intros; decide)
  by_cases h16 : w = [112, 114, 112]
  · subst h16; first | decide | (intros; decide)
  by_cases h17 : w = [99, 99]
  · subst h17; first | decide | (intros; decide)
  simp [sG, fm, show (w == [112, 116]) = false from beq_eq_false_iff_ne.2 h0, show (w == [109, 105, 100]) = false from beq_eq_false_iff_ne.2 h1, show (w == [108, 105, 110, 101]) = false from beq_eq_false_iff_ne.2 h2, show (w == [112, 97, 114]) = false from beq_eq_false_iff_ne.2 h3, show (w == [112, 101, 114, 112]) = false from beq_eq_false_iff_ne.2 h4, show (w == [109, 101, 101, 116]) = false from beq_eq_false_iff_ne.2 h5, show (w == [102, 111, 111, 116]) = false from beq_eq_false_iff_ne.2 h6, show (w == [109, 105, 114, 114, 111, 114]) = false from beq_eq_false_iff_ne.2 h7, show (w == [99, 101, 110, 116, 114, 101]) = false from beq_eq_false_iff_ne.2 h8, show (w == [115, 97, 109, 101]) = false from beq_eq_false_iff_ne.2 h9, show (w == [99, 111, 108]) = false from beq_eq_false_iff_ne.2 h10, show (w == [99, 99, 119]) = false from beq_eq_false_iff_ne.2 h11, show (w == [98, 116, 119]) = false from beq_eq_false_iff_ne.2 h12, show (w == [99, 111, 110]) = false from beq_eq_false_iff_ne.2 h13, show (w == [111, 110]) = false from beq_eq_false_iff_ne.2 h14, show (w == [112, 108, 108]) = false from beq_eq_false_iff_ne.2 h15, show (w == [112, 114, 112]) = false from beq_eq_false_iff_ne.2 h16, show (w == [99, 99]) = false from beq_eq_false_iff_ne.2 h17]

/-- Which gave the name: the first, or -1. -/
def gvI (l : List St) (nm : Nat) : Int := match l.findIdx? (fun x => x.name == nm) with
  | some k => (k : Int)
  | none => -1
theorem gvI_none {l : List St} {nm : Nat} (h : ∀ j (hj : j < l.length), l[j].name ≠ nm) : gvI l nm = -1 := by
  have : l.findIdx? (fun x => x.name == nm) = none := by
    rw [List.findIdx?_eq_none_iff]
    intro x hx
    obtain ⟨j, hj, rfl⟩ := List.getElem_of_mem hx
    simpa using h j hj
  simp [gvI, this]
theorem gvI_some {l : List St} {nm k : Nat} (hk : k < l.length) (he : l[k].name = nm) (h : ∀ j (hj : j < k), l[j].name ≠ nm) : gvI l nm = k := by
  have : l.findIdx? (fun x => x.name == nm) = some k := by
    rw [List.findIdx?_eq_some_iff_getElem]
    exact ⟨hk, by simpa using he, fun j hj => by simpa using h j hj⟩
  simp [gvI, this]
theorem gvI_cases (l : List St) (nm : Nat) : (gvI l nm = -1 ∧ ∀ j (hj : j < l.length), l[j].name ≠ nm) ∨ (∃ k, ∃ hk : k < l.length, gvI l nm = (k : Int) ∧ l[k].name = nm ∧ ∀ j (hj : j < k), l[j].name ≠ nm) := by
  cases h : l.findIdx? (fun x => x.name == nm) with
  | none =>
    refine .inl ⟨by simp [gvI, h], fun j hj => ?_⟩
    rw [List.findIdx?_eq_none_iff] at h
    simpa using h l[j] (List.getElem_mem hj)
  | some k =>
    rw [List.findIdx?_eq_some_iff_getElem] at h
    obtain ⟨hk, h1, h2⟩ := h
    have h2' : ∀ j (hj : j < k), l[j].name ≠ nm := fun j hj => by simpa using h2 j hj
    exact .inr ⟨k, hk, gvI_some hk (by simpa using h1) h2', by simpa using h1, h2'⟩

end Go.Proofs.YtmnfndpbblpjiaaGreatDoor.Pu
