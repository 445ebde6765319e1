/- Proved here: of any three numbers: of two inputs, each squared up to ten times, Exec tells that (A + B)(A - B) is AA - BB, and which is the greater; no condition (the three listed tables of Go's library are tied to the program's text). -/
import Derived.Test.YtmnfndpbblpjiaaDoorZd01
import Derived.Test.YtmnfndpbblpjiaaDoorZd02
import Derived.Test.YtmnfndpbblpjiaaDoorZd07
import Derived.Test.YtmnfndpbblpjiaaDoorZd16
import Derived.Test.YtmnfndpbblpjiaaDoorZd15
import Derived.Test.YtmnfndpbblpjiaaDoorZd17
import Derived.ChangeMaps5
/- Words, sorts, weights, faults: plain functions. -/
namespace Go.Proofs.YtmnfndpbblpjiaaDoor.Pu

/-- A word's arguments and what it gives (80 a point, 76 a line, 63 an answer, 0: there is none). -/
def fm (w : List UInt8) : List UInt8 × Nat :=
  if w == [112, 116] then ([], 80) else
  if w == [109, 105, 100] then ([80, 80], 80) else
  if w == [108, 105, 110, 101] then ([80, 80], 76) else
  if w == [112, 97, 114] then ([80, 76], 76) else
  if w == [112, 101, 114, 112] then ([80, 76], 76) else
  if w == [109, 101, 101, 116] then ([76, 76], 80) else
  if w == [102, 111, 111, 116] then ([80, 76], 80) else
  if w == [109, 105, 114, 114, 111, 114] then ([80, 76], 80) else
  if w == [99, 101, 110, 116, 114, 101] then ([80, 80, 80], 80) else
  if w == [115, 97, 109, 101] then ([80, 80], 63) else
  if w == [99, 111, 108] then ([80, 80, 80], 63) else
  if w == [99, 99, 119] then ([80, 80, 80], 63) else
  if w == [98, 116, 119] then ([80, 80, 80], 63) else
  if w == [99, 111, 110] then ([80, 80, 80, 80], 63) else
  if w == [111, 110] then ([80, 76], 63) else
  if w == [112, 108, 108] then ([76, 76], 63) else
  if w == [112, 114, 112] then ([76, 76], 63) else
  if w == [99, 99] then ([76, 76, 76], 63) else ([], 0)
def qT (w : List UInt8) : List UInt8 × Bool :=
  if w == [115, 97, 109, 101] then ([80, 80], true) else
  if w == [99, 111, 108] then ([80, 80, 80], true) else
  if w == [99, 99, 119] then ([80, 80, 80], true) else
  if w == [98, 116, 119] then ([80, 80, 80], true) else
  if w == [99, 111, 110] then ([80, 80, 80, 80], true) else
  if w == [111, 110] then ([80, 76], true) else
  if w == [112, 108, 108] then ([76, 76], true) else
  if w == [112, 114, 112] then ([76, 76], true) else
  if w == [99, 99] then ([76, 76, 76], true) else ([], false)
def cT (w : List UInt8) : List UInt8 × Bool :=
  if w == [112, 116] then ([], true) else
  if w == [109, 105, 100] then ([80, 80], true) else
  if w == [108, 105, 110, 101] then ([80, 80], true) else
  if w == [112, 97, 114] then ([80, 76], true) else
  if w == [112, 101, 114, 112] then ([80, 76], true) else
  if w == [109, 101, 101, 116] then ([76, 76], true) else
  if w == [102, 111, 111, 116] then ([80, 76], true) else
  if w == [109, 105, 114, 114, 111, 114] then ([80, 76], true) else
  if w == [99, 101, 110, 116, 114, 101] then ([80, 80, 80], true) else ([], false)
def sG (w : List UInt8) : Nat :=
  if w == [108, 105, 110, 101] then 76 else if w == [112, 97, 114] then 76 else if w == [112, 101, 114, 112] then 76 else 80
def wG (w : List UInt8) (sum last : Nat) : Nat :=
  if w == [112, 116] then 1 else if w == [102, 111, 111, 116] then sum + last else if w == [109, 105, 114, 114, 111, 114] then 2 * sum else if w == [99, 101, 110, 116, 114, 101] then 4 * sum else sum

theorem qT_fm (w : List UInt8) : ((qT w).2 = true ↔ (fm w).2 = 63) ∧ ((qT w).2 = true → (qT w).1 = (fm w).1) := by
  by_cases h0 : w = [112, 116]
  · subst h0; first | decide | (intros; decide)
  by_cases h1 : w = [109, 105, 100]
  · subst h1; first | decide | (intros; decide)
  by_cases h2 : w = [108, 105, 110, 101]
  · subst h2; first | decide | (intros; decide)
  by_cases h3 : w = [112, 97, 114]
  · subst h3; first | decide | (intros; decide)
  by_cases h4 : w = [112, 101, 114, 112]
  · subst h4; first | decide | (intros; decide)
  by_cases h5 : w = [109, 101, 101, 116]
  · subst h5; first | decide | (intros; decide)
  by_cases h6 : w = [102, 111, 111, 116]
  · subst h6; first | decide | (intros; decide)
  by_cases h7 : w = [109, 105, 114, 114, 111, 114]
  · subst h7; first | decide | (intros; decide)
  by_cases h8 : w = [99, 101, 110, 116, 114, 101]
  · subst h8; first | decide | (intros; decide)
  by_cases h9 : w = [115, 97, 109, 101]
  · subst h9; first | decide | (intros; decide)
  by_cases h10 : w = [99, 111, 108]
  · subst h10; first | decide | (intros; decide)
  by_cases h11 : w = [99, 99, 119]
  · subst h11; first | decide | (intros; decide)
  by_cases h12 : w = [98, 116, 119]
  · subst h12; first | decide | (intros; decide)
  by_cases h13 : w = [99, 111, 110]
  · subst h13; first | decide | (intros; decide)
  by_cases h14 : w = [111, 110]
  · subst h14; first | decide | (intros; decide)
  by_cases h15 : w = [112, 108, 108]
  · subst h15; first | decide | (intros; decide)
  by_cases h16 : w = [112, 114, 112]
  · subst h16; first | decide | (intros; decide)
  by_cases h17 : w = [99, 99]
  · subst h17; first | decide | (intros; decide)
  simp [qT, fm, show (w == [112, 116]) = false from beq_eq_false_iff_ne.2 h0, show (w == [109, 105, 100]) = false from beq_eq_false_iff_ne.2 h1, show (w == [108, 105, 110, 101]) = false from beq_eq_false_iff_ne.2 h2, show (w == [112, 97, 114]) = false from beq_eq_false_iff_ne.2 h3, show (w == [112, 101, 114, 112]) = false from beq_eq_false_iff_ne.2 h4, show (w == [109, 101, 101, 116]) = false from beq_eq_false_iff_ne.2 h5, show (w == [102, 111, 111, 116]) = false from beq_eq_false_iff_ne.2 h6, show (w == [109, 105, 114, 114, 111, 114]) = false from beq_eq_false_iff_ne.2 h7, show (w == [99, 101, 110, 116, 114, 101]) = false from beq_eq_false_iff_ne.2 h8, show (w == [115, 97, 109, 101]) = false from beq_eq_false_iff_ne.2 h9, show (w == [99, 111, 108]) = false from beq_eq_false_iff_ne.2 h10, show (w == [99, 99, 119]) = false from beq_eq_false_iff_ne.2 h11, show (w == [98, 116, 119]) = false from beq_eq_false_iff_ne.2 h12, show (w == [99, 111, 110]) = false from beq_eq_false_iff_ne.2 h13, show (w == [111, 110]) = false from beq_eq_false_iff_ne.2 h14, show (w == [112, 108, 108]) = false from beq_eq_false_iff_ne.2 h15, show (w == [112, 114, 112]) = false from beq_eq_false_iff_ne.2 h16, show (w == [99, 99]) = false from beq_eq_false_iff_ne.2 h17]
theorem cT_fm (w : List UInt8) : ((cT w).2 = true ↔ (fm w).2 ≠ 63 ∧ (fm w).2 ≠ 0) ∧ ((cT w).2 = true → (cT w).1 = (fm w).1) := by
  by_cases h0 : w = [112, 116]
  · subst h0; first | decide | (intros; decide)
  by_cases h1 : w = [109, 105, 100]
  · subst h1; first | decide | (intros; decide)
  by_cases h2 : w = [108, 105, 110, 101]
  · subst h2; first | decide | (intros; decide)
  by_cases h3 : w = [112, 97, 114]
  · subst h3; first | decide | (intros; decide)
  by_cases h4 : w = [112, 101, 114, 112]
  · subst h4; first | decide | (intros; decide)
  by_cases h5 : w = [109, 101, 101, 116]
  · subst h5; first | decide | (intros; decide)
  by_cases h6 : w = [102, 111, 111, 116]
  · subst h6; first | decide | (intros; decide)
  by_cases h7 : w = [109, 105, 114, 114, 111, 114]
  · subst h7; first | decide | (intros; decide)
  by_cases h8 : w = [99, 101, 110, 116, 114, 101]
  · subst h8; first | decide | (intros; decide)
  by_cases h9 : w = [115, 97, 109, 101]
  · subst h9; first | decide | (intros; decide)
  by_cases h10 : w = [99, 111, 108]
  · subst h10; first | decide | (intros; decide)
  by_cases h11 : w = [99, 99, 119]
  · subst h11; first | decide | (intros; decide)
  by_cases h12 : w = [98, 116, 119]
  · subst h12; first | decide | (intros; decide)
  by_cases h13 : w = [99, 111, 110]
  · subst h13; first | decide | (intros; decide)
  by_cases h14 : w = [111, 110]
  · subst h14; first | decide | (intros; decide)
  by_cases h15 : w = [112, 108, 108]
  · subst h15; first | decide | (intros; decide)
  by_cases h16 : w = [112, 114, 112]
  · subst h16; first | decide | (intros; decide)
  by_cases h17 : w = [99, 99]
  · subst h17; first | decide | (intros; decide)
  simp [cT, fm, show (w == [112, 116]) = false from beq_eq_false_iff_ne.2 h0, show (w == [109, 105, 100]) = false from beq_eq_false_iff_ne.2 h1, show (w == [108, 105, 110, 101]) = false from beq_eq_false_iff_ne.2 h2, show (w == [112, 97, 114]) = false from beq_eq_false_iff_ne.2 h3, show (w == [112, 101, 114, 112]) = false from beq_eq_false_iff_ne.2 h4, show (w == [109, 101, 101, 116]) = false from beq_eq_false_iff_ne.2 h5, show (w == [102, 111, 111, 116]) = false from beq_eq_false_iff_ne.2 h6, show (w == [109, 105, 114, 114, 111, 114]) = false from beq_eq_false_iff_ne.2 h7, show (w == [99, 101, 110, 116, 114, 101]) = false from beq_eq_false_iff_ne.2 h8, show (w == [115, 97, 109, 101]) = false from beq_eq_false_iff_ne.2 h9, show (w == [99, 111, 108]) = false from beq_eq_false_iff_ne.2 h10, show (w == [99, 99, 119]) = false from beq_eq_false_iff_ne.2 h11, show (w == [98, 116, 119]) = false from beq_eq_false_iff_ne.2 h12, show (w == [99, 111, 110]) = false from beq_eq_false_iff_ne.2 h13, show (w == [111, 110]) = false from beq_eq_false_iff_ne.2 h14, show (w == [112, 108, 108]) = false from beq_eq_false_iff_ne.2 h15, show (w == [112, 114, 112]) = false from beq_eq_false_iff_ne.2 h16, show (w == [99, 99]) = false from beq_eq_false_iff_ne.2 h17]
theorem sG_fm (w : List UInt8) : (fm w).2 ≠ 63 → (fm w).2 ≠ 0 → sG w = (fm w).2 := by
  by_cases h0 : w = [112, 116]
  · subst h0; first | decide | (intros; decide)
  by_cases h1 : w = [109, 105, 100]
  · subst h1; first | decide | (intros; decide)
  by_cases h2 : w = [108, 105, 110, 101]
  · subst h2; first | decide | (intros; decide)
  by_cases h3 : w = [112, 97, 114]
  · subst h3; first | decide | (intros; decide)
  by_cases h4 : w = [112, 101, 114, 112]
  · subst h4; first | decide | (intros; decide)
  by_cases h5 : w = [109, 101, 101, 116]
  · subst h5; first | decide | (intros; decide)
  by_cases h6 : w = [102, 111, 111, 116]
  · subst h6; first | decide | (intros; decide)
  by_cases h7 : w = [109, 105, 114, 114, 111, 114]
  · subst h7; first | decide | (intros; decide)
  by_cases h8 : w = [99, 101, 110, 116, 114, 101]
  · subst h8; first | decide | (intros; decide)
  by_cases h9 : w = [115, 97, 109, 101]
  · subst h9; first | decide | (intros; decide)
  by_cases h10 : w = [99, 111, 108]
  · subst h10; first | decide | (intros; decide)
  by_cases h11 : w = [99, 99, 119]
  · subst h11; first | decide | (intros; decide)
  by_cases h12 : w = [98, 116, 119]
  · subst h12; first | decide | (intros; decide)
  by_cases h13 : w = [99, 111, 110]
  · subst h13; first | decide | (intros; decide)
  by_cases h14 : w = [111, 110]
  · subst h14; first | decide | (intros; decide)
  by_cases h15 : w = [112, 108, 108]
  · subst h15; first | decide | (intros; decide)
  by_cases h16 : w = [112, 114, 112]
  · subst h16; first | decide | (intros; decide)
  by_cases h17 : w = [99, 99]
  · subst h17; first | decide | (intros; decide)
  simp [sG, fm, show (w == [112, 116]) = false from beq_eq_false_iff_ne.2 h0, show (w == [109, 105, 100]) = false from beq_eq_false_iff_ne.2 h1, show (w == [108, 105, 110, 101]) = false from beq_eq_false_iff_ne.2 h2, show (w == [112, 97, 114]) = false from beq_eq_false_iff_ne.2 h3, show (w == [112, 101, 114, 112]) = false from beq_eq_false_iff_ne.2 h4, show (w == [109, 101, 101, 116]) = false from beq_eq_false_iff_ne.2 h5, show (w == [102, 111, 111, 116]) = false from beq_eq_false_iff_ne.2 h6, show (w == [109, 105, 114, 114, 111, 114]) = false from beq_eq_false_iff_ne.2 h7, show (w == [99, 101, 110, 116, 114, 101]) = false from beq_eq_false_iff_ne.2 h8, show (w == [115, 97, 109, 101]) = false from beq_eq_false_iff_ne.2 h9, show (w == [99, 111, 108]) = false from beq_eq_false_iff_ne.2 h10, show (w == [99, 99, 119]) = false from beq_eq_false_iff_ne.2 h11, show (w == [98, 116, 119]) = false from beq_eq_false_iff_ne.2 h12, show (w == [99, 111, 110]) = false from beq_eq_false_iff_ne.2 h13, show (w == [111, 110]) = false from beq_eq_false_iff_ne.2 h14, show (w == [112, 108, 108]) = false from beq_eq_false_iff_ne.2 h15, show (w == [112, 114, 112]) = false from beq_eq_false_iff_ne.2 h16, show (w == [99, 99]) = false from beq_eq_false_iff_ne.2 h17]

/-- Which gave the name: the first, or -1. -/
def gvI (l : List St) (nm : Nat) : Int := match l.findIdx? (fun x => x.name == nm) with
  | some k => (k : Int)
  | none => -1
theorem gvI_none {l : List St} {nm : Nat} (h : ∀ j (hj : j < l.length), l[j].name ≠ nm) : gvI l nm = -1 := by
  have : l.findIdx? (fun x => x.name == nm) = none := by
    rw [List.findIdx?_eq_none_iff]
    intro x hx
    obtain ⟨j, hj, rfl⟩ := List.getElem_of_mem hx
    simpa using h j hj
  simp [gvI, this]
theorem gvI_some {l : List St} {nm k : Nat} (hk : k < l.length) (he : l[k].name = nm) (h : ∀ j (hj : j < k), l[j].name ≠ nm) : gvI l nm = k := by
  have : l.findIdx? (fun x => x.name == nm) = some k := by
    rw [List.findIdx?_eq_some_iff_getElem]
    exact ⟨hk, by simpa using he, fun j hj => by simpa using h j hj⟩
  simp [gvI, this]
theorem gvI_cases (l : List St) (nm : Nat) : (gvI l nm = -1 ∧ ∀ j (hj : j < l.length), l[j].name ≠ nm) ∨ (∃ k, ∃ hk : k < l.length, gvI l nm = (k : Int) ∧ l[k].name = nm ∧ ∀ j (hj : j < k), l[j].name ≠ nm) := by
  cases h : l.findIdx? (fun x => x.name == nm) with
  | none =>
    refine .inl ⟨by simp [gvI, h], fun j hj => ?_⟩
    rw [List.findIdx?_eq_none_iff] at h
    simpa using h l[j] (List.getElem_mem hj)
  | some k =>
    rw [List.findIdx?_eq_some_iff_getElem] at h
    obtain ⟨hk, h1, h2⟩ := h
    have h2' : ∀ j (hj : j < k), l[j].name ≠ nm := fun j hj => by simpa using h2 j hj
    exact .inr ⟨k, hk, gvI_some hk (by simpa using h1) h2', by simpa using h1, h2'⟩

end Go.Proofs.YtmnfndpbblpjiaaDoor.Pu

/- Plain functions: the steps that a construction or a question is made into. -/
namespace Go.Proofs.YtmnfndpbblpjiaaDoor.Pu

/-- The registers of a point or a line. -/
structure Tr where
  x : Nat
  y : Nat
  w : Nat
def prodS (s p q r t : Nat) : List Stp := [⟨4, s, p, q⟩, ⟨4, s + 1, r, t⟩, ⟨2, s + 2, s, s + 1⟩]
def prodD (s p q r t : Nat) : List Stp := [⟨4, s, p, q⟩, ⟨4, s + 1, r, t⟩, ⟨3, s + 2, s, s + 1⟩]
def negL (s y : Nat) : List Stp := [⟨1, s, 0, 0⟩, ⟨3, s + 1, s, y⟩]
def isnL (s y : Nat) : List Stp := [⟨5, s, y, 0⟩, ⟨4, s + 1, s, s⟩, ⟨1, s + 2, 1, 0⟩, ⟨3, s + 3, s + 2, s + 1⟩]
def crossR (s : Nat) : Tr := ⟨s + 2, s + 5, s + 8⟩
def crossL (s : Nat) (a b : Tr) : List Stp := prodD s a.y b.w a.w b.y ++ (prodD (s + 3) a.w b.x a.x b.w ++ prodD (s + 6) a.x b.y a.y b.x)
def dotL (s : Nat) (a b : Tr) : List Stp := prodS s a.x b.x a.y b.y ++ [⟨4, s + 3, a.w, b.w⟩, ⟨2, s + 4, s + 2, s + 3⟩]
def volL (s : Nat) (a b c : Tr) : List Stp := crossL s a b ++ dotL (s + 9) (crossR s) c
def givenR (s : Nat) : Tr := ⟨s, s + 1, s + 2⟩
def givenL (s i : Nat) : List Stp := [⟨0, s, i, 0⟩, ⟨0, s + 1, i + 1, 0⟩, ⟨1, s + 2, 1, 0⟩]
def midR (s : Nat) : Tr := ⟨s + 2, s + 5, s + 7⟩
def midL (s : Nat) (a b : Tr) : List Stp := prodS s a.x b.w b.x a.w ++ (prodS (s + 3) a.y b.w b.y a.w ++ [⟨4, s + 6, a.w, b.w⟩, ⟨2, s + 7, s + 6, s + 6⟩])
def parR (s : Nat) : Tr := ⟨s, s + 1, s + 6⟩
def parL (s : Nat) (p l : Tr) : List Stp := [⟨4, s, l.x, p.w⟩, ⟨4, s + 1, l.y, p.w⟩] ++ (prodS (s + 2) l.x p.x l.y p.y ++ negL (s + 5) (s + 4))
def uprR (s : Nat) : Tr := ⟨s + 2, s + 3, s + 8⟩
def uprL (s : Nat) (p l : Tr) : List Stp := negL s l.x ++ parL (s + 2) p ⟨l.y, s + 1, l.w⟩
def footR (s : Nat) : Tr := ⟨s + 11, s + 14, s + 17⟩
def footL (s : Nat) (p l : Tr) : List Stp := uprL s p l ++ crossL (s + 9) (uprR s) l
def mirR (s : Nat) : Tr := ⟨s + 22, s + 25, s + 26⟩
def mirL (s : Nat) (p l : Tr) : List Stp :=
  footL s p l ++ ([⟨2, s + 18, s + 11, s + 11⟩, ⟨2, s + 19, s + 14, s + 14⟩] ++ (prodD (s + 20) (s + 18) p.w p.x (s + 17) ++ (prodD (s + 23) (s + 19) p.w p.y (s + 17) ++ [⟨4, s + 26, s + 17, p.w⟩])))
def halR (s : Nat) : Tr := ⟨s + 19, s + 20, s + 25⟩
def halL (s : Nat) (a b : Tr) : List Stp := midL s a b ++ (crossL (s + 8) a b ++ uprL (s + 17) (midR s) (crossR (s + 8)))
def cenR (s : Nat) : Tr := ⟨s + 54, s + 57, s + 60⟩
def cenL (s : Nat) (a b c : Tr) : List Stp := halL s a b ++ (halL (s + 26) a c ++ crossL (s + 52) (halR s) (halR (s + 26)))
def wayR (s : Nat) : Tr := ⟨s + 2, s + 5, s + 6⟩
def wayL (s : Nat) (f t : Tr) : List Stp := prodD s t.x f.w f.x t.w ++ (prodD (s + 3) t.y f.w f.y t.w ++ [⟨4, s + 6, f.w, t.w⟩])
def lifR (s : Nat) : Tr := ⟨s, s + 1, s + 4⟩
def lifL (s : Nat) (p : Tr) : List Stp := [⟨4, s, p.x, p.w⟩, ⟨4, s + 1, p.y, p.w⟩] ++ prodS (s + 2) p.x p.x p.y p.y
def btwL (s : Nat) (a b c : Tr) : List Stp :=
  volL s a b c ++ (isnL (s + 14) (s + 13) ++ (wayL (s + 18) b a ++ (wayL (s + 25) b c ++ (prodS (s + 32) (s + 20) (s + 27) (s + 23) (s + 30) ++ (negL (s + 35) (s + 34) ++ [⟨4, s + 37, s + 17, s + 36⟩])))))
def rndL (s : Nat) (a b c d : Tr) : List Stp :=
  wayL s a b ++ (wayL (s + 7) a c ++ (wayL (s + 14) a d ++ (lifL (s + 21) (wayR s) ++ (lifL (s + 26) (wayR (s + 7)) ++ (lifL (s + 31) (wayR (s + 14)) ++ volL (s + 36) (lifR (s + 21)) (lifR (s + 26)) (lifR (s + 31)))))))
def samL (s : Nat) (a b : Tr) : List Stp := wayL s a b ++ prodS (s + 7) (s + 2) (s + 2) (s + 5) (s + 5)
/-- What the arguments of a statement stand for. -/
structure Th where
  a : Tr
  b : Tr
  c : Tr
  d : Tr
/-- Steps, the register they answer in, how many. -/
def gapL (wd : List UInt8) (s : Nat) (t : Th) : List Stp × Nat :=
  if wd == [115, 97, 109, 101] then (samL s t.a t.b, 9)
  else if wd == [99, 111, 110] then (rndL s t.a t.b t.c t.d, 49)
  else if wd == [111, 110] then (dotL s t.a t.b, 4)
  else if wd == [112, 108, 108] then (prodD s t.a.x t.b.y t.a.y t.b.x, 2)
  else if wd == [112, 114, 112] then (prodS s t.a.x t.b.x t.a.y t.b.y, 2)
  else (volL s t.a t.b t.c, 13)
def askL (wd : List UInt8) (s : Nat) (t : Th) : List Stp × Nat :=
  if wd == [99, 99, 119] then (volL s t.a t.b t.c, 13)
  else if wd == [98, 116, 119] then (btwL s t.a t.b t.c, 37)
  else ((gapL wd s t).1 ++ isnL (s + (gapL wd s t).2 + 1) (s + (gapL wd s t).2), (gapL wd s t).2 + 4)
def conL (wd : List UInt8) (s i : Nat) (t : Th) : List Stp × Tr × Nat :=
  if wd == [112, 116] then (givenL s i, givenR s, i + 2)
  else if wd == [109, 105, 100] then (midL s t.a t.b, midR s, i)
  else if wd == [112, 97, 114] then (parL s t.a t.b, parR s, i)
  else if wd == [112, 101, 114, 112] then (uprL s t.a t.b, uprR s, i)
  else if wd == [102, 111, 111, 116] then (footL s t.a t.b, footR s, i)
  else if wd == [109, 105, 114, 114, 111, 114] then (mirL s t.a t.b, mirR s, i)
  else if wd == [99, 101, 110, 116, 114, 101] then (cenL s t.a t.b t.c, cenR s, i)
  else (crossL s t.a t.b, crossR s, i)
def grdL (wd : List UInt8) (s : Nat) (m : Tr) (k : Nat) : List Stp :=
  if wd == [108, 105, 110, 101] then prodS s m.x m.x m.y m.y ++ [⟨7, s + 2, 0, k⟩]
  else if wd == [109, 101, 101, 116] then [⟨7, m.w, 1, k⟩]
  else if wd == [99, 101, 110, 116, 114, 101] then [⟨7, m.w, 2, k⟩] else []
def facL (wd : List UInt8) (s : Nat) (m : Tr) : List Stp := if sG wd = 80 then [⟨5, s, m.w, 0⟩] else [⟨1, s, 1, 0⟩]
def keepL (wd : List UInt8) (s : Nat) (m : Tr) (k : Nat) : List Stp := facL wd s m ++ [⟨4, 3 * k, m.x, s⟩, ⟨4, 3 * k + 1, m.y, s⟩, ⟨4, 3 * k + 2, m.w, s⟩]
end Go.Proofs.YtmnfndpbblpjiaaDoor.Pu

/- What the made steps come to, in plain numbers. -/
namespace Go.Proofs.YtmnfndpbblpjiaaDoor.Pu

structure T3 where
  x : Int
  y : Int
  w : Int
def crossV (a b : T3) : T3 := ⟨a.y * b.w - a.w * b.y, a.w * b.x - a.x * b.w, a.x * b.y - a.y * b.x⟩
def dotV (a b : T3) : Int := a.x * b.x + a.y * b.y + a.w * b.w
def volV (a b c : T3) : Int := dotV (crossV a b) c
def midV (a b : T3) : T3 := ⟨a.x * b.w + b.x * a.w, a.y * b.w + b.y * a.w, a.w * b.w + a.w * b.w⟩
def parV (p l : T3) : T3 := ⟨l.x * p.w, l.y * p.w, 0 - (l.x * p.x + l.y * p.y)⟩
def uprV (p l : T3) : T3 := parV p ⟨l.y, 0 - l.x, l.w⟩
def footV (p l : T3) : T3 := crossV (uprV p l) l
def mirV (p l : T3) : T3 := ⟨((footV p l).x + (footV p l).x) * p.w - p.x * (footV p l).w, ((footV p l).y + (footV p l).y) * p.w - p.y * (footV p l).w, (footV p l).w * p.w⟩
def halV (a b : T3) : T3 := uprV (midV a b) (crossV a b)
def cenV (a b c : T3) : T3 := crossV (halV a b) (halV a c)
def wayV (f t : T3) : T3 := ⟨t.x * f.w - f.x * t.w, t.y * f.w - f.y * t.w, f.w * t.w⟩
def lifV (p : T3) : T3 := ⟨p.x * p.w, p.y * p.w, p.x * p.x + p.y * p.y⟩
def isnV (y : Int) : Int := 1 - sgn y * sgn y
def btwV (a b c : T3) : Int := isnV (volV a b c) * (0 - ((wayV b a).x * (wayV b c).x + (wayV b a).y * (wayV b c).y))
def rndV (a b c d : T3) : Int := volV (lifV (wayV a b)) (lifV (wayV a c)) (lifV (wayV a d))
def samV (a b : T3) : Int := (wayV a b).x * (wayV a b).x + (wayV a b).y * (wayV a b).y

def Sm (M : Nat) (v : Int) : Prop := v.natAbs ≤ M
def qd (M : Nat) : Nat := 3 * (M * M)
theorem qd_le {M : Nat} (h : 1 ≤ M) : M ≤ qd M := by
  unfold qd
  have := Nat.le_mul_of_pos_right M h
  omega
theorem qd_pos {M : Nat} (h : 1 ≤ M) : 1 ≤ qd M := Nat.le_trans h (qd_le h)
theorem Sm.mono {M N : Nat} {v : Int} (h : Sm M v) (hn : M ≤ N) : Sm N v := Nat.le_trans h hn
theorem Sm.mul {M : Nat} {a b : Int} (h : Sm M a) (k : Sm M b) : Sm (M * M) (a * b) := by
  unfold Sm at *; rw [Int.natAbs_mul]; exact Nat.mul_le_mul h k
theorem Sm.add {M N : Nat} {a b : Int} (h : Sm M a) (k : Sm N b) : Sm (M + N) (a + b) := by unfold Sm at *; omega
theorem Sm.sub {M N : Nat} {a b : Int} (h : Sm M a) (k : Sm N b) : Sm (M + N) (a - b) := by unfold Sm at *; omega
theorem Sm.q {M : Nat} {a b : Int} (h : Sm M a) (k : Sm M b) : Sm (qd M) (a * b) := (h.mul k).mono (by unfold qd; omega)
theorem Sm.qs {M : Nat} {a b c d : Int} (h : Sm M a) (k : Sm M b) (i : Sm M c) (j : Sm M d) : Sm (qd M) (a * b + c * d) := ((h.mul k).add (i.mul j)).mono (by unfold qd; omega)
theorem Sm.qm {M : Nat} {a b c d : Int} (h : Sm M a) (k : Sm M b) (i : Sm M c) (j : Sm M d) : Sm (qd M) (a * b - c * d) := ((h.mul k).sub (i.mul j)).mono (by unfold qd; omega)
theorem Sm.q3 {M : Nat} {a b c d e f : Int} (h : Sm M a) (k : Sm M b) (i : Sm M c) (j : Sm M d) (m : Sm M e) (n : Sm M f) : Sm (qd M) (a * b + c * d + e * f) := (((h.mul k).add (i.mul j)).add (m.mul n)).mono (by unfold qd; omega)
theorem Sm.dbl {M : Nat} {a : Int} (h : Sm M a) (hm : 1 ≤ M) : Sm (qd M) (a + a) := (h.add h).mono (by unfold qd; have := Nat.le_mul_of_pos_right M hm; omega)
theorem sgn_cases (x : Int) : sgn x = -1 ∧ x < 0 ∨ sgn x = 0 ∧ x = 0 ∨ sgn x = 1 ∧ 0 < x := by
  unfold sgn; by_cases h : x < 0
  · simp [h]
  · by_cases k : x = 0
    · simp [k]
    · simp [h, k]; omega
theorem Sm.sgn {M : Nat} (x : Int) (hm : 1 ≤ M) : Sm M (Pu.sgn x) := by unfold Sm; rcases sgn_cases x with h | h | h <;> rw [h.1] <;> simp <;> omega

/-- The steps come to registers of which Q is so. -/
def Rn (B : Nat) (ins : List Int) (l : List Stp) (R : List Int) (Q : List Int → Prop) : Prop := ∃ R', Q R' ∧ ∀ rest s, play B ins (l ++ rest) R s = play B ins rest R' s
section
variable {B : Nat} {ins : List Int} {l l1 l2 : List Stp} {R R' : List Int} {Q : List Int → Prop}
theorem rn_nil (h : Q R) : Rn B ins [] R Q := ⟨R, h, fun _ _ => rfl⟩
theorem rn_app (h : Rn B ins l1 R (fun R1 => Rn B ins l2 R1 Q)) : Rn B ins (l1 ++ l2) R Q := by
  obtain ⟨R1, ⟨R2, h2, k2⟩, k1⟩ := h
  exact ⟨R2, h2, fun rest s => by rw [List.append_assoc, k1, k2]⟩
theorem rn_mono {P : List Int → Prop} (h : Rn B ins l R P) (k : ∀ R', P R' → Q R') : Rn B ins l R Q := by
  obtain ⟨R1, h1, k1⟩ := h
  exact ⟨R1, k _ h1, k1⟩
theorem reg_set_eq {i : Nat} {v : Int} (h : i < R.length) : reg (R.set i v) i = v := by simp [reg, h]
theorem reg_set_ne {i r : Nat} {v : Int} (h : r ≠ i) : reg (R.set i v) r = reg R r := by
  unfold reg; rw [List.getElem?_set_ne (fun e => h e.symm)]
/-- Below s nothing has turned. -/
def Lo (s : Nat) (R R' : List Int) : Prop := R'.length = 128 ∧ ∀ r, r < s → reg R' r = reg R r
theorem Lo.trans {s t : Nat} {A C D : List Int} (h : Lo s A C) (k : Lo t C D) (hs : s ≤ t) : Lo s A D := ⟨k.1, fun r hr => by rw [k.2 r (by omega), h.2 r hr]⟩
def Sv (s M : Nat) (R : List Int) (r : Nat) (v : Int) : Prop := r < s ∧ reg R r = v ∧ Sm M v
theorem Sv.lo {s M : Nat} {r : Nat} {v : Int} (h : Sv s M R r v) (k : Lo s R R') (t N : Nat) (ht : s ≤ t) (hN : M ≤ N) : Sv t N R' r v := ⟨by have := h.1; omega, by rw [k.2 r h.1, h.2.1], h.2.2.mono hN⟩
def Tv (s M : Nat) (R : List Int) (t : Tr) (v : T3) : Prop := Sv s M R t.x v.x ∧ Sv s M R t.y v.y ∧ Sv s M R t.w v.w
theorem Tv.lo {s M : Nat} {t : Tr} {v : T3} (h : Tv s M R t v) (k : Lo s R R') (t' N : Nat) (ht : s ≤ t') (hN : M ≤ N) : Tv t' N R' t v := ⟨h.1.lo k _ _ ht hN, h.2.1.lo k _ _ ht hN, h.2.2.lo k _ _ ht hN⟩

/-- One step that sets the next register. -/
theorem rn_work {op s y z : Nat} (v : Int) (M : Nat) (hR : R.length = 128) (hs : s < 128) (hop : op < 6) (hv : valOf ⟨op, s, y, z⟩ R ins = v) (hm : Sm M v) (hb : M < B) (k : ∀ R', Lo s R R' → Sv (s + 1) M R' s v → Rn B ins l R' Q) : Rn B ins (⟨op, s, y, z⟩ :: l) R Q := by
  have hb' : ¬ B ≤ (valOf ⟨op, s, y, z⟩ R ins).natAbs := by rw [hv]; unfold Sm at hm; omega
  obtain ⟨R2, h2, k2⟩ := k (R.set s v) ⟨by simpa using hR, fun r hr => reg_set_ne (by omega)⟩ ⟨by omega, reg_set_eq (by omega), hm⟩
  refine ⟨R2, h2, fun rest st => ?_⟩
  rw [List.cons_append, play_set hop hb', hv]
  exact k2 rest st
theorem val_mul {s y z : Nat} {a b : Int} (h : reg R y = a) (k : reg R z = b) : valOf ⟨4, s, y, z⟩ R ins = a * b := by simp [valOf, h, k]
theorem val_add {s y z : Nat} {a b : Int} (h : reg R y = a) (k : reg R z = b) : valOf ⟨2, s, y, z⟩ R ins = a + b := by simp [valOf, h, k]
theorem val_sub {s y z : Nat} {a b : Int} (h : reg R y = a) (k : reg R z = b) : valOf ⟨3, s, y, z⟩ R ins = a - b := by simp [valOf, h, k]
theorem val_con {s y : Nat} : valOf ⟨1, s, y, 0⟩ R ins = (y : Int) := by simp [valOf]
theorem val_sgn {s y : Nat} {a : Int} (h : reg R y = a) : valOf ⟨5, s, y, 0⟩ R ins = sgn a := by simp [valOf, h]
theorem val_in {s y : Nat} {a : Int} (h : ins[y]? = some a) : valOf ⟨0, s, y, 0⟩ R ins = a := by simp [valOf, h]

variable {s M : Nat}
theorem rn_prodS {p q r t : Nat} {a b c d : Int} (hR : R.length = 128) (hs : s + 3 ≤ 128) (hB : qd M < B) (hp : Sv s M R p a) (hq : Sv s M R q b) (hr : Sv s M R r c) (ht : Sv s M R t d)
    (k : ∀ R', Lo s R R' → Sv (s + 3) (qd M) R' (s + 2) (a * b + c * d) → Rn B ins l R' Q) : Rn B ins (prodS s p q r t ++ l) R Q := by
  refine rn_work (a * b) (qd M) hR (by omega) (by omega) (val_mul hp.2.1 hq.2.1) (hp.2.2.q hq.2.2) hB ?_
  intro R1 l1 v1
  have hr1 := hr.lo l1 (s + 1) M (by omega) (Nat.le_refl _)
  have ht1 := ht.lo l1 (s + 1) M (by omega) (Nat.le_refl _)
  refine rn_work (c * d) (qd M) l1.1 (by omega) (by omega) (val_mul hr1.2.1 ht1.2.1) (hr.2.2.q ht.2.2) hB ?_
  intro R2 l2 v2
  have v1' := v1.lo l2 (s + 2) _ (by omega) (Nat.le_refl _)
  refine rn_work (a * b + c * d) (qd M) l2.1 (by omega) (by omega) (val_add v1'.2.1 v2.2.1) (hp.2.2.qs hq.2.2 hr.2.2 ht.2.2) hB ?_
  intro R3 l3 v3
  exact k R3 ((l1.trans l2 (by omega)).trans l3 (by omega)) v3
theorem rn_prodD {p q r t : Nat} {a b c d : Int} (hR : R.length = 128) (hs : s + 3 ≤ 128) (hB : qd M < B) (hp : Sv s M R p a) (hq : Sv s M R q b) (hr : Sv s M R r c) (ht : Sv s M R t d)
    (k : ∀ R', Lo s R R' → Sv (s + 3) (qd M) R' (s + 2) (a * b - c * d) → Rn B ins l R' Q) : Rn B ins (prodD s p q r t ++ l) R Q := by
  refine rn_work (a * b) (qd M) hR (by omega) (by omega) (val_mul hp.2.1 hq.2.1) (hp.2.2.q hq.2.2) hB ?_
  intro R1 l1 v1
  have hr1 := hr.lo l1 (s + 1) M (by omega) (Nat.le_refl _)
  have ht1 := ht.lo l1 (s + 1) M (by omega) (Nat.le_refl _)
  refine rn_work (c * d) (qd M) l1.1 (by omega) (by omega) (val_mul hr1.2.1 ht1.2.1) (hr.2.2.q ht.2.2) hB ?_
  intro R2 l2 v2
  have v1' := v1.lo l2 (s + 2) _ (by omega) (Nat.le_refl _)
  refine rn_work (a * b - c * d) (qd M) l2.1 (by omega) (by omega) (val_sub v1'.2.1 v2.2.1) (hp.2.2.qm hq.2.2 hr.2.2 ht.2.2) hB ?_
  intro R3 l3 v3
  exact k R3 ((l1.trans l2 (by omega)).trans l3 (by omega)) v3
theorem rn_neg {y : Nat} {a : Int} (hR : R.length = 128) (hs : s + 2 ≤ 128) (hB : M < B) (hy : Sv s M R y a)
    (k : ∀ R', Lo s R R' → Sv (s + 2) M R' (s + 1) (0 - a) → Rn B ins l R' Q) : Rn B ins (negL s y ++ l) R Q := by
  refine rn_work 0 M hR (by omega) (by omega) val_con (by simp [Sm]) hB ?_
  intro R1 l1 v1
  have hy1 := hy.lo l1 (s + 1) M (by omega) (Nat.le_refl _)
  refine rn_work (0 - a) M l1.1 (by omega) (by omega) (val_sub v1.2.1 hy1.2.1) (by have := hy.2.2; unfold Sm at *; omega) hB ?_
  intro R2 l2 v2
  exact k R2 (l1.trans l2 (by omega)) v2
theorem isnV_cases (a : Int) : isnV a = 0 ∧ a ≠ 0 ∨ isnV a = 1 ∧ a = 0 := by
  unfold isnV; rcases sgn_cases a with h | h | h <;> rw [h.1] <;> simp <;> omega
theorem Sm.isn {M : Nat} (a : Int) (h : 1 ≤ M) : Sm M (isnV a) := by unfold Sm; rcases isnV_cases a with h | h <;> rw [h.1] <;> simp <;> omega
theorem rn_isn {y : Nat} {a : Int} (hR : R.length = 128) (hs : s + 4 ≤ 128) (hB : M < B) (h1 : 1 ≤ M) (hy : Sv s M R y a)
    (k : ∀ R', Lo s R R' → Sv (s + 4) M R' (s + 3) (isnV a) → Rn B ins l R' Q) : Rn B ins (isnL s y ++ l) R Q := by
  refine rn_work (sgn a) M hR (by omega) (by omega) (val_sgn hy.2.1) (.sgn a h1) hB ?_
  intro R1 l1 v1
  refine rn_work (sgn a * sgn a) M l1.1 (by omega) (by omega) (val_mul v1.2.1 v1.2.1) (by unfold Sm; rcases sgn_cases a with h | h | h <;> rw [h.1] <;> simp <;> omega) hB ?_
  intro R2 l2 v2
  refine rn_work 1 M l2.1 (by omega) (by omega) val_con (by simp [Sm]; omega) hB ?_
  intro R3 l3 v3
  have v2' := v2.lo l3 (s + 3) _ (by omega) (Nat.le_refl _)
  refine rn_work (isnV a) M l3.1 (by omega) (by omega) (val_sub v3.2.1 v2'.2.1) (.isn a h1) hB ?_
  intro R4 l4 v4
  exact k R4 (((l1.trans l2 (by omega)).trans l3 (by omega)).trans l4 (by omega)) v4
theorem rn_cross {a b : Tr} {u v : T3} (hR : R.length = 128) (hs : s + 9 ≤ 128) (hB : qd M < B) (ha : Tv s M R a u) (hb : Tv s M R b v)
    (k : ∀ R', Lo s R R' → Tv (s + 9) (qd M) R' (crossR s) (crossV u v) → Rn B ins l R' Q) : Rn B ins (crossL s a b ++ l) R Q := by
  unfold crossL
  rw [List.append_assoc, List.append_assoc]
  refine rn_prodD hR (by omega) hB ha.2.1 hb.2.2 ha.2.2 hb.2.1 ?_
  intro R1 l1 v1
  have ha1 := ha.lo l1 (s + 3) M (by omega) (Nat.le_refl _)
  have hb1 := hb.lo l1 (s + 3) M (by omega) (Nat.le_refl _)
  refine rn_prodD l1.1 (by omega) hB ha1.2.2 hb1.1 ha1.1 hb1.2.2 ?_
  intro R2 l2 v2
  have ha2 := ha1.lo l2 (s + 6) M (by omega) (Nat.le_refl _)
  have hb2 := hb1.lo l2 (s + 6) M (by omega) (Nat.le_refl _)
  refine rn_prodD l2.1 (by omega) hB ha2.1 hb2.2.1 ha2.2.1 hb2.1 ?_
  intro R3 l3 v3
  exact k R3 ((l1.trans l2 (by omega)).trans l3 (by omega)) ⟨(v1.lo l2 (s + 6) _ (by omega) (Nat.le_refl _)).lo l3 (s + 9) _ (by omega) (Nat.le_refl _), v2.lo l3 (s + 9) _ (by omega) (Nat.le_refl _), v3⟩
theorem rn_dot {a b : Tr} {u v : T3} (hR : R.length = 128) (hs : s + 5 ≤ 128) (hB : qd M < B) (ha : Tv s M R a u) (hb : Tv s M R b v)
    (k : ∀ R', Lo s R R' → Sv (s + 5) (qd M) R' (s + 4) (dotV u v) → Rn B ins l R' Q) : Rn B ins (dotL s a b ++ l) R Q := by
  unfold dotL
  rw [List.append_assoc]
  refine rn_prodS hR (by omega) hB ha.1 hb.1 ha.2.1 hb.2.1 ?_
  intro R1 l1 v1
  have ha1 := ha.lo l1 (s + 3) M (by omega) (Nat.le_refl _)
  have hb1 := hb.lo l1 (s + 3) M (by omega) (Nat.le_refl _)
  refine rn_work (u.w * v.w) (qd M) l1.1 (by omega) (by omega) (val_mul ha1.2.2.2.1 hb1.2.2.2.1) (ha.2.2.2.2.q hb.2.2.2.2) hB ?_
  intro R2 l2 v2
  have v1' := v1.lo l2 (s + 4) _ (by omega) (Nat.le_refl _)
  refine rn_work (dotV u v) (qd M) l2.1 (by omega) (by omega) (val_add v1'.2.1 v2.2.1) (ha.1.2.2.q3 hb.1.2.2 ha.2.1.2.2 hb.2.1.2.2 ha.2.2.2.2 hb.2.2.2.2) hB ?_
  intro R3 l3 v3
  exact k R3 ((l1.trans l2 (by omega)).trans l3 (by omega)) v3
theorem rn_vol {a b c : Tr} {u v t : T3} (hR : R.length = 128) (hs : s + 14 ≤ 128) (h1 : 1 ≤ M) (hB : qd (qd M) < B) (ha : Tv s M R a u) (hb : Tv s M R b v) (hc : Tv s M R c t)
    (k : ∀ R', Lo s R R' → Sv (s + 14) (qd (qd M)) R' (s + 13) (volV u v t) → Rn B ins l R' Q) : Rn B ins (volL s a b c ++ l) R Q := by
  unfold volL
  rw [List.append_assoc]
  have hq := qd_le (qd_pos h1)
  refine rn_cross hR (by omega) (by omega) ha hb ?_
  intro R1 l1 v1
  refine rn_dot l1.1 (by omega) hB v1 (hc.lo l1 (s + 9) _ (by omega) (qd_le h1)) ?_
  intro R2 l2 v2
  exact k R2 (l1.trans l2 (by omega)) v2
theorem rn_mid {a b : Tr} {u v : T3} (hR : R.length = 128) (hs : s + 8 ≤ 128) (hB : qd M < B) (ha : Tv s M R a u) (hb : Tv s M R b v)
    (k : ∀ R', Lo s R R' → Tv (s + 8) (qd M) R' (midR s) (midV u v) → Rn B ins l R' Q) : Rn B ins (midL s a b ++ l) R Q := by
  unfold midL
  rw [List.append_assoc, List.append_assoc]
  refine rn_prodS hR (by omega) hB ha.1 hb.2.2 hb.1 ha.2.2 ?_
  intro R1 l1 v1
  have ha1 := ha.lo l1 (s + 3) M (by omega) (Nat.le_refl _)
  have hb1 := hb.lo l1 (s + 3) M (by omega) (Nat.le_refl _)
  refine rn_prodS l1.1 (by omega) hB ha1.2.1 hb1.2.2 hb1.2.1 ha1.2.2 ?_
  intro R2 l2 v2
  have ha2 := ha1.lo l2 (s + 6) M (by omega) (Nat.le_refl _)
  have hb2 := hb1.lo l2 (s + 6) M (by omega) (Nat.le_refl _)
  refine rn_work (u.w * v.w) (qd M) l2.1 (by omega) (by omega) (val_mul ha2.2.2.2.1 hb2.2.2.2.1) (ha.2.2.2.2.q hb.2.2.2.2) hB ?_
  intro R3 l3 v3
  refine rn_work (u.w * v.w + u.w * v.w) (qd M) l3.1 (by omega) (by omega) (val_add v3.2.1 v3.2.1) (ha.2.2.2.2.qs hb.2.2.2.2 ha.2.2.2.2 hb.2.2.2.2) hB ?_
  intro R4 l4 v4
  have l34 := l3.trans l4 (by omega)
  have l24 := l2.trans l34 (by omega)
  exact k R4 (l1.trans l24 (by omega)) ⟨v1.lo l24 (s + 8) _ (by omega) (Nat.le_refl _), v2.lo l34 (s + 8) _ (by omega) (Nat.le_refl _), v4⟩
theorem rn_par {p l' : Tr} {u v : T3} (hR : R.length = 128) (hs : s + 7 ≤ 128) (hB : qd M < B) (hp : Tv s M R p u) (hl : Tv s M R l' v)
    (k : ∀ R', Lo s R R' → Tv (s + 7) (qd M) R' (parR s) (parV u v) → Rn B ins l R' Q) : Rn B ins (parL s p l' ++ l) R Q := by
  unfold parL
  rw [List.append_assoc, List.append_assoc]
  refine rn_work (v.x * u.w) (qd M) hR (by omega) (by omega) (val_mul hl.1.2.1 hp.2.2.2.1) (hl.1.2.2.q hp.2.2.2.2) hB ?_
  intro R1 l1 v1
  have hp1 := hp.lo l1 (s + 1) M (by omega) (Nat.le_refl _)
  have hl1 := hl.lo l1 (s + 1) M (by omega) (Nat.le_refl _)
  refine rn_work (v.y * u.w) (qd M) l1.1 (by omega) (by omega) (val_mul hl1.2.1.2.1 hp1.2.2.2.1) (hl.2.1.2.2.q hp.2.2.2.2) hB ?_
  intro R2 l2 v2
  have hp2 := hp1.lo l2 (s + 2) M (by omega) (Nat.le_refl _)
  have hl2 := hl1.lo l2 (s + 2) M (by omega) (Nat.le_refl _)
  refine rn_prodS l2.1 (by omega) hB hl2.1 hp2.1 hl2.2.1 hp2.2.1 ?_
  intro R3 l3 v3
  refine rn_neg l3.1 (by omega) hB v3 ?_
  intro R4 l4 v4
  have l34 := l3.trans l4 (by omega)
  have l24 := l2.trans l34 (by omega)
  exact k R4 (l1.trans l24 (by omega)) ⟨v1.lo l24 (s + 7) _ (by omega) (Nat.le_refl _), v2.lo l34 (s + 7) _ (by omega) (Nat.le_refl _), v4⟩
theorem rn_upr {p l' : Tr} {u v : T3} (hR : R.length = 128) (hs : s + 9 ≤ 128) (h1 : 1 ≤ M) (hB : qd M < B) (hp : Tv s M R p u) (hl : Tv s M R l' v)
    (k : ∀ R', Lo s R R' → Tv (s + 9) (qd M) R' (uprR s) (uprV u v) → Rn B ins l R' Q) : Rn B ins (uprL s p l' ++ l) R Q := by
  unfold uprL
  rw [List.append_assoc]
  have hq := qd_le h1
  refine rn_neg hR (by omega) (by omega) hl.1 ?_
  intro R1 l1 v1
  have hl1 := hl.lo l1 (s + 2) M (by omega) (Nat.le_refl _)
  refine rn_par l1.1 (by omega) hB (hp.lo l1 (s + 2) M (by omega) (Nat.le_refl _)) (v := ⟨v.y, 0 - v.x, v.w⟩) ⟨hl1.2.1, v1, hl1.2.2⟩ ?_
  intro R2 l2 v2
  exact k R2 (l1.trans l2 (by omega)) v2
theorem rn_foot {p l' : Tr} {u v : T3} (hR : R.length = 128) (hs : s + 18 ≤ 128) (h1 : 1 ≤ M) (hB : qd (qd M) < B) (hp : Tv s M R p u) (hl : Tv s M R l' v)
    (k : ∀ R', Lo s R R' → Tv (s + 18) (qd (qd M)) R' (footR s) (footV u v) → Rn B ins l R' Q) : Rn B ins (footL s p l' ++ l) R Q := by
  unfold footL
  rw [List.append_assoc]
  have hq := qd_le (qd_pos h1)
  refine rn_upr hR (by omega) h1 (by omega) hp hl ?_
  intro R1 l1 v1
  refine rn_cross l1.1 (by omega) hB v1 (hl.lo l1 (s + 9) _ (by omega) (qd_le h1)) ?_
  intro R2 l2 v2
  exact k R2 (l1.trans l2 (by omega)) v2
theorem rn_mir {p l' : Tr} {u v : T3} (hR : R.length = 128) (hs : s + 27 ≤ 128) (h1 : 1 ≤ M) (hB : qd (qd (qd (qd M))) < B) (hp : Tv s M R p u) (hl : Tv s M R l' v)
    (k : ∀ R', Lo s R R' → Tv (s + 27) (qd (qd (qd (qd M)))) R' (mirR s) (mirV u v) → Rn B ins l R' Q) : Rn B ins (mirL s p l' ++ l) R Q := by
  unfold mirL
  simp only [List.append_assoc]
  have q1 := qd_le h1
  have q2 := qd_le (qd_pos h1)
  have q3 := qd_le (qd_pos (qd_pos h1))
  have q4 := qd_le (qd_pos (qd_pos (qd_pos h1)))
  refine rn_foot hR (by omega) h1 (by omega) hp hl ?_
  intro R1 l1 f1
  refine rn_work ((footV u v).x + (footV u v).x) (qd (qd (qd M))) l1.1 (by omega) (by omega) (val_add f1.1.2.1 f1.1.2.1) (f1.1.2.2.dbl (qd_pos (qd_pos h1))) (by omega) ?_
  intro R2 l2 v2
  have f2 := f1.lo l2 (s + 19) _ (by omega) (Nat.le_refl _)
  refine rn_work ((footV u v).y + (footV u v).y) (qd (qd (qd M))) l2.1 (by omega) (by omega) (val_add f2.2.1.2.1 f2.2.1.2.1) (f2.2.1.2.2.dbl (qd_pos (qd_pos h1))) (by omega) ?_
  intro R3 l3 v3
  have f3 := f2.lo l3 (s + 20) (qd (qd (qd M))) (by omega) (by omega)
  have v2' := v2.lo l3 (s + 20) _ (by omega) (Nat.le_refl _)
  have v3' := v3
  have p3 := hp.lo (l1.trans (l2.trans l3 (by omega)) (by omega)) (s + 20) (qd (qd (qd M))) (by omega) (by omega)
  refine rn_prodD l3.1 (by omega) hB v2' p3.2.2 p3.1 f3.2.2 ?_
  intro R4 l4 v4
  have f4 := f3.lo l4 (s + 23) _ (by omega) (Nat.le_refl _)
  have p4 := p3.lo l4 (s + 23) _ (by omega) (Nat.le_refl _)
  refine rn_prodD l4.1 (by omega) hB (v3.lo l4 (s + 23) _ (by omega) (Nat.le_refl _)) p4.2.2 p4.2.1 f4.2.2 ?_
  intro R5 l5 v5
  have f5 := f4.lo l5 (s + 26) _ (by omega) (Nat.le_refl _)
  have p5 := p4.lo l5 (s + 26) _ (by omega) (Nat.le_refl _)
  refine rn_work ((footV u v).w * u.w) (qd (qd (qd (qd M)))) l5.1 (by omega) (by omega) (val_mul f5.2.2.2.1 p5.2.2.2.1) (f5.2.2.2.2.q p5.2.2.2.2) hB ?_
  intro R6 l6 v6
  have l56 := l5.trans l6 (by omega)
  have l46 := l4.trans l56 (by omega)
  exact k R6 (l1.trans (l2.trans (l3.trans l46 (by omega)) (by omega)) (by omega)) ⟨v4.lo l56 (s + 27) _ (by omega) (Nat.le_refl _), v5.lo l6 (s + 27) _ (by omega) (Nat.le_refl _), v6⟩
theorem rn_hal {a b : Tr} {u v : T3} (hR : R.length = 128) (hs : s + 26 ≤ 128) (h1 : 1 ≤ M) (hB : qd (qd M) < B) (ha : Tv s M R a u) (hb : Tv s M R b v)
    (k : ∀ R', Lo s R R' → Tv (s + 26) (qd (qd M)) R' (halR s) (halV u v) → Rn B ins l R' Q) : Rn B ins (halL s a b ++ l) R Q := by
  unfold halL
  simp only [List.append_assoc]
  have q2 := qd_le (qd_pos h1)
  refine rn_mid hR (by omega) (by omega) ha hb ?_
  intro R1 l1 v1
  refine rn_cross l1.1 (by omega) (by omega) (ha.lo l1 (s + 8) M (by omega) (Nat.le_refl _)) (hb.lo l1 (s + 8) M (by omega) (Nat.le_refl _)) ?_
  intro R2 l2 v2
  refine rn_upr l2.1 (by omega) (qd_pos h1) hB (v1.lo l2 (s + 17) _ (by omega) (Nat.le_refl _)) v2 ?_
  intro R3 l3 v3
  exact k R3 (l1.trans (l2.trans l3 (by omega)) (by omega)) v3
theorem rn_cen {a b c : Tr} {u v t : T3} (hR : R.length = 128) (hs : s + 61 ≤ 128) (h1 : 1 ≤ M) (hB : qd (qd (qd M)) < B) (ha : Tv s M R a u) (hb : Tv s M R b v) (hc : Tv s M R c t)
    (k : ∀ R', Lo s R R' → Tv (s + 61) (qd (qd (qd M))) R' (cenR s) (cenV u v t) → Rn B ins l R' Q) : Rn B ins (cenL s a b c ++ l) R Q := by
  unfold cenL
  simp only [List.append_assoc]
  have q3 := qd_le (qd_pos (qd_pos h1))
  refine rn_hal hR (by omega) h1 (by omega) ha hb ?_
  intro R1 l1 v1
  refine rn_hal l1.1 (by omega) h1 (by omega) (ha.lo l1 (s + 26) M (by omega) (Nat.le_refl _)) (hc.lo l1 (s + 26) M (by omega) (Nat.le_refl _)) ?_
  intro R2 l2 v2
  refine rn_cross l2.1 (by omega) hB (v1.lo l2 (s + 52) _ (by omega) (Nat.le_refl _)) v2 ?_
  intro R3 l3 v3
  exact k R3 (l1.trans (l2.trans l3 (by omega)) (by omega)) v3
theorem rn_way {a b : Tr} {u v : T3} (hR : R.length = 128) (hs : s + 7 ≤ 128) (hB : qd M < B) (ha : Tv s M R a u) (hb : Tv s M R b v)
    (k : ∀ R', Lo s R R' → Tv (s + 7) (qd M) R' (wayR s) (wayV u v) → Rn B ins l R' Q) : Rn B ins (wayL s a b ++ l) R Q := by
  unfold wayL
  simp only [List.append_assoc]
  refine rn_prodD hR (by omega) hB hb.1 ha.2.2 ha.1 hb.2.2 ?_
  intro R1 l1 v1
  have ha1 := ha.lo l1 (s + 3) M (by omega) (Nat.le_refl _)
  have hb1 := hb.lo l1 (s + 3) M (by omega) (Nat.le_refl _)
  refine rn_prodD l1.1 (by omega) hB hb1.2.1 ha1.2.2 ha1.2.1 hb1.2.2 ?_
  intro R2 l2 v2
  have ha2 := ha1.lo l2 (s + 6) M (by omega) (Nat.le_refl _)
  have hb2 := hb1.lo l2 (s + 6) M (by omega) (Nat.le_refl _)
  refine rn_work (u.w * v.w) (qd M) l2.1 (by omega) (by omega) (val_mul ha2.2.2.2.1 hb2.2.2.2.1) (ha.2.2.2.2.q hb.2.2.2.2) hB ?_
  intro R3 l3 v3
  have l23 := l2.trans l3 (by omega)
  exact k R3 (l1.trans l23 (by omega)) ⟨v1.lo l23 (s + 7) _ (by omega) (Nat.le_refl _), v2.lo l3 (s + 7) _ (by omega) (Nat.le_refl _), v3⟩
theorem rn_lif {p : Tr} {u : T3} (hR : R.length = 128) (hs : s + 5 ≤ 128) (hB : qd M < B) (hp : Tv s M R p u)
    (k : ∀ R', Lo s R R' → Tv (s + 5) (qd M) R' (lifR s) (lifV u) → Rn B ins l R' Q) : Rn B ins (lifL s p ++ l) R Q := by
  unfold lifL
  rw [List.append_assoc]
  refine rn_work (u.x * u.w) (qd M) hR (by omega) (by omega) (val_mul hp.1.2.1 hp.2.2.2.1) (hp.1.2.2.q hp.2.2.2.2) hB ?_
  intro R1 l1 v1
  have hp1 := hp.lo l1 (s + 1) M (by omega) (Nat.le_refl _)
  refine rn_work (u.y * u.w) (qd M) l1.1 (by omega) (by omega) (val_mul hp1.2.1.2.1 hp1.2.2.2.1) (hp.2.1.2.2.q hp.2.2.2.2) hB ?_
  intro R2 l2 v2
  have hp2 := hp1.lo l2 (s + 2) M (by omega) (Nat.le_refl _)
  refine rn_prodS l2.1 (by omega) hB hp2.1 hp2.1 hp2.2.1 hp2.2.1 ?_
  intro R3 l3 v3
  have l23 := l2.trans l3 (by omega)
  exact k R3 (l1.trans l23 (by omega)) ⟨v1.lo l23 (s + 5) _ (by omega) (Nat.le_refl _), v2.lo l3 (s + 5) _ (by omega) (Nat.le_refl _), v3⟩
theorem rn_btw {a b c : Tr} {u v t : T3} (hR : R.length = 128) (hs : s + 38 ≤ 128) (h1 : 1 ≤ M) (hB : qd (qd (qd M)) < B) (ha : Tv s M R a u) (hb : Tv s M R b v) (hc : Tv s M R c t)
    (k : ∀ R', Lo s R R' → Sv (s + 38) (qd (qd (qd M))) R' (s + 37) (btwV u v t) → Rn B ins l R' Q) : Rn B ins (btwL s a b c ++ l) R Q := by
  unfold btwL
  simp only [List.append_assoc]
  have q1 := qd_le h1
  have q2 := qd_le (qd_pos h1)
  have q3 := qd_le (qd_pos (qd_pos h1))
  refine rn_vol hR (by omega) h1 (by omega) ha hb hc ?_
  intro R1 l1 v1
  refine rn_isn l1.1 (by omega) (by omega) (qd_pos (qd_pos h1)) v1 ?_
  intro R2 l2 v2
  have l12 := l1.trans l2 (by omega)
  have a2 := ha.lo l12 (s + 18) M (by omega) (Nat.le_refl _)
  have b2 := hb.lo l12 (s + 18) M (by omega) (Nat.le_refl _)
  have c2 := hc.lo l12 (s + 18) M (by omega) (Nat.le_refl _)
  refine rn_way l2.1 (by omega) (by omega) b2 a2 ?_
  intro R3 l3 v3
  refine rn_way l3.1 (by omega) (by omega) (b2.lo l3 (s + 25) M (by omega) (Nat.le_refl _)) (c2.lo l3 (s + 25) M (by omega) (Nat.le_refl _)) ?_
  intro R4 l4 v4
  have w3 := v3.lo l4 (s + 32) _ (by omega) (Nat.le_refl _)
  refine rn_prodS l4.1 (by omega) (by omega) w3.1 v4.1 w3.2.1 v4.2.1 ?_
  intro R5 l5 v5
  refine rn_neg l5.1 (by omega) (by omega) v5 ?_
  intro R6 l6 v6
  have l36 := l3.trans (l4.trans (l5.trans l6 (by omega)) (by omega)) (by omega)
  have z2 := v2.lo l36 (s + 37) _ (by omega) (Nat.le_refl _)
  refine rn_work (btwV u v t) (qd (qd (qd M))) l6.1 (by omega) (by omega) (val_mul z2.2.1 v6.2.1) (z2.2.2.q v6.2.2) hB ?_
  intro R7 l7 v7
  exact k R7 (l12.trans (l36.trans l7 (by omega)) (by omega)) v7
theorem rn_rnd {a b c d : Tr} {u v t x : T3} (hR : R.length = 128) (hs : s + 50 ≤ 128) (h1 : 1 ≤ M) (hB : qd (qd (qd (qd M))) < B) (ha : Tv s M R a u) (hb : Tv s M R b v) (hc : Tv s M R c t) (hd : Tv s M R d x)
    (k : ∀ R', Lo s R R' → Sv (s + 50) (qd (qd (qd (qd M)))) R' (s + 49) (rndV u v t x) → Rn B ins l R' Q) : Rn B ins (rndL s a b c d ++ l) R Q := by
  unfold rndL
  simp only [List.append_assoc]
  have q1 := qd_le h1
  have q2 := qd_le (qd_pos h1)
  have q3 := qd_le (qd_pos (qd_pos h1))
  have q4 := qd_le (qd_pos (qd_pos (qd_pos h1)))
  refine rn_way hR (by omega) (by omega) ha hb ?_
  intro R1 l1 v1
  refine rn_way l1.1 (by omega) (by omega) (ha.lo l1 (s + 7) M (by omega) (Nat.le_refl _)) (hc.lo l1 (s + 7) M (by omega) (Nat.le_refl _)) ?_
  intro R2 l2 v2
  have l12 := l1.trans l2 (by omega)
  refine rn_way l2.1 (by omega) (by omega) (ha.lo l12 (s + 14) M (by omega) (Nat.le_refl _)) (hd.lo l12 (s + 14) M (by omega) (Nat.le_refl _)) ?_
  intro R3 l3 v3
  have l23 := l2.trans l3 (by omega)
  refine rn_lif l3.1 (by omega) (by omega) (v1.lo l23 (s + 21) _ (by omega) (Nat.le_refl _)) ?_
  intro R4 l4 v4
  refine rn_lif l4.1 (by omega) (by omega) (v2.lo (l3.trans l4 (by omega)) (s + 26) _ (by omega) (Nat.le_refl _)) ?_
  intro R5 l5 v5
  have l45 := l4.trans l5 (by omega)
  refine rn_lif l5.1 (by omega) (by omega) (v3.lo l45 (s + 31) _ (by omega) (Nat.le_refl _)) ?_
  intro R6 l6 v6
  have l56 := l5.trans l6 (by omega)
  refine rn_vol l6.1 (by omega) (qd_pos (qd_pos h1)) (by omega) (v4.lo l56 (s + 36) _ (by omega) (Nat.le_refl _)) (v5.lo l6 (s + 36) _ (by omega) (Nat.le_refl _)) v6 ?_
  intro R7 l7 v7
  exact k R7 (l12.trans (l3.trans (l45.trans (l6.trans l7 (by omega)) (by omega)) (by omega)) (by omega)) v7
theorem rn_sam {a b : Tr} {u v : T3} (hR : R.length = 128) (hs : s + 10 ≤ 128) (h1 : 1 ≤ M) (hB : qd (qd M) < B) (ha : Tv s M R a u) (hb : Tv s M R b v)
    (k : ∀ R', Lo s R R' → Sv (s + 10) (qd (qd M)) R' (s + 9) (samV u v) → Rn B ins l R' Q) : Rn B ins (samL s a b ++ l) R Q := by
  unfold samL
  rw [List.append_assoc]
  have q2 := qd_le (qd_pos h1)
  refine rn_way hR (by omega) (by omega) ha hb ?_
  intro R1 l1 v1
  refine rn_prodS l1.1 (by omega) hB v1.1 v1.1 v1.2.1 v1.2.1 ?_
  intro R2 l2 v2
  exact k R2 (l1.trans l2 (by omega)) v2
end
end Go.Proofs.YtmnfndpbblpjiaaDoor.Pu

/- Statements as plain data: what they are made into, and what they tell. -/
namespace Go.Proofs.YtmnfndpbblpjiaaDoor.Pu

/-- A statement; its arguments are the numbers of the statements that gave them. -/
abbrev Cmd : Type := ((((Unit ⊕ (Nat × Nat)) ⊕ (Nat × Nat)) ⊕ ((Nat × Nat) ⊕ (Nat × Nat))) ⊕ (((Nat × Nat) ⊕ (Nat × Nat)) ⊕ ((Nat × Nat) ⊕ (Nat × Nat × Nat)))) ⊕ (((((Nat × Nat) ⊕ (Nat × Nat × Nat)) ⊕ (Nat × Nat × Nat)) ⊕ ((Nat × Nat × Nat) ⊕ (Nat × Nat × Nat × Nat))) ⊕ (((Nat × Nat) ⊕ (Nat × Nat)) ⊕ ((Nat × Nat) ⊕ (Nat × Nat × Nat))))
abbrev Cmd.pt : Cmd := .inl (.inl (.inl (.inl (.inl ()))))
abbrev Cmd.mid (a b : Nat) : Cmd := .inl (.inl (.inl (.inl (.inr (a, b)))))
abbrev Cmd.line (a b : Nat) : Cmd := .inl (.inl (.inl (.inr (a, b))))
abbrev Cmd.par (p l : Nat) : Cmd := .inl (.inl (.inr (.inl (p, l))))
abbrev Cmd.perp (p l : Nat) : Cmd := .inl (.inl (.inr (.inr (p, l))))
abbrev Cmd.meet (l m : Nat) : Cmd := .inl (.inr (.inl (.inl (l, m))))
abbrev Cmd.foot (p l : Nat) : Cmd := .inl (.inr (.inl (.inr (p, l))))
abbrev Cmd.mirror (p l : Nat) : Cmd := .inl (.inr (.inr (.inl (p, l))))
abbrev Cmd.centre (a b c : Nat) : Cmd := .inl (.inr (.inr (.inr (a, b, c))))
abbrev Cmd.same (a b : Nat) : Cmd := .inr (.inl (.inl (.inl (.inl (a, b)))))
abbrev Cmd.col (a b c : Nat) : Cmd := .inr (.inl (.inl (.inl (.inr (a, b, c)))))
abbrev Cmd.ccw (a b c : Nat) : Cmd := .inr (.inl (.inl (.inr (a, b, c))))
abbrev Cmd.btw (a b c : Nat) : Cmd := .inr (.inl (.inr (.inl (a, b, c))))
abbrev Cmd.con (a b c d : Nat) : Cmd := .inr (.inl (.inr (.inr (a, b, c, d))))
abbrev Cmd.on (p l : Nat) : Cmd := .inr (.inr (.inl (.inl (p, l))))
abbrev Cmd.pll (l m : Nat) : Cmd := .inr (.inr (.inl (.inr (l, m))))
abbrev Cmd.prp (l m : Nat) : Cmd := .inr (.inr (.inr (.inl (l, m))))
abbrev Cmd.cc (l m n : Nat) : Cmd := .inr (.inr (.inr (.inr (l, m, n))))
theorem Cmd.el {motive : Cmd → Prop} (pt : motive .pt) (mid : ∀ a b, motive (.mid a b)) (line : ∀ a b, motive (.line a b)) (par : ∀ p l, motive (.par p l)) (perp : ∀ p l, motive (.perp p l)) (meet : ∀ l m, motive (.meet l m)) (foot : ∀ p l, motive (.foot p l)) (mirror : ∀ p l, motive (.mirror p l)) (centre : ∀ a b c, motive (.centre a b c)) (same : ∀ a b, motive (.same a b)) (col : ∀ a b c, motive (.col a b c)) (ccw : ∀ a b c, motive (.ccw a b c)) (btw : ∀ a b c, motive (.btw a b c)) (con : ∀ a b c d, motive (.con a b c d)) (on : ∀ p l, motive (.on p l)) (pll : ∀ l m, motive (.pll l m)) (prp : ∀ l m, motive (.prp l m)) (cc : ∀ l m n, motive (.cc l m n)) : ∀ c, motive c
  | .inl (.inl (.inl (.inl (.inl ())))) => pt
  | .inl (.inl (.inl (.inl (.inr (a, b))))) => mid a b
  | .inl (.inl (.inl (.inr (a, b)))) => line a b
  | .inl (.inl (.inr (.inl (p, l)))) => par p l
  | .inl (.inl (.inr (.inr (p, l)))) => perp p l
  | .inl (.inr (.inl (.inl (l, m)))) => meet l m
  | .inl (.inr (.inl (.inr (p, l)))) => foot p l
  | .inl (.inr (.inr (.inl (p, l)))) => mirror p l
  | .inl (.inr (.inr (.inr (a, b, c)))) => centre a b c
  | .inr (.inl (.inl (.inl (.inl (a, b))))) => same a b
  | .inr (.inl (.inl (.inl (.inr (a, b, c))))) => col a b c
  | .inr (.inl (.inl (.inr (a, b, c)))) => ccw a b c
  | .inr (.inl (.inr (.inl (a, b, c)))) => btw a b c
  | .inr (.inl (.inr (.inr (a, b, c, d)))) => con a b c d
  | .inr (.inr (.inl (.inl (p, l)))) => on p l
  | .inr (.inr (.inl (.inr (l, m)))) => pll l m
  | .inr (.inr (.inr (.inl (l, m)))) => prp l m
  | .inr (.inr (.inr (.inr (l, m, n)))) => cc l m n
/-- What it gives: 80 a point, 76 a line, 63 an answer. -/
def srt : Cmd → Nat
  | .inl (.inl (.inl (.inl _))) => 80
  | .inl (.inl (.inl (.inr _))) => 76
  | .inl (.inl (.inr _)) => 76
  | .inl (.inr _) => 80
  | .inr _ => 63
def hm (k : Nat) : Tr := ⟨3 * k, 3 * k + 1, 3 * k + 2⟩
def kp3 (s : Nat) (m : Tr) (k : Nat) : List Stp := [⟨4, 3 * k, m.x, s⟩, ⟨4, 3 * k + 1, m.y, s⟩, ⟨4, 3 * k + 2, m.w, s⟩]
def kpP (s : Nat) (m : Tr) (k : Nat) : List Stp := ⟨5, s, m.w, 0⟩ :: kp3 s m k
def kpL (s : Nat) (m : Tr) (k : Nat) : List Stp := ⟨1, s, 1, 0⟩ :: kp3 s m k
def out1 (s : Nat) : List Stp := [⟨6, s, 0, 0⟩]
def cmdL (k i : Nat) : Cmd → List Stp
  | .inl (.inl (.inl (.inl (.inl ())))) => givenL 48 i ++ kpP 51 (givenR 48) k
  | .inl (.inl (.inl (.inl (.inr (a, b))))) => midL 48 (hm a) (hm b) ++ kpP 56 (midR 48) k
  | .inl (.inl (.inl (.inr (a, b)))) => crossL 48 (hm a) (hm b) ++ (prodS 57 50 50 53 53 ++ (⟨7, 59, 0, k⟩ :: kpL 60 (crossR 48) k))
  | .inl (.inl (.inr (.inl (p, l)))) => parL 48 (hm p) (hm l) ++ kpL 55 (parR 48) k
  | .inl (.inl (.inr (.inr (p, l)))) => uprL 48 (hm p) (hm l) ++ kpL 57 (uprR 48) k
  | .inl (.inr (.inl (.inl (l, m)))) => crossL 48 (hm l) (hm m) ++ (⟨7, 56, 1, k⟩ :: kpP 57 (crossR 48) k)
  | .inl (.inr (.inl (.inr (p, l)))) => footL 48 (hm p) (hm l) ++ kpP 66 (footR 48) k
  | .inl (.inr (.inr (.inl (p, l)))) => mirL 48 (hm p) (hm l) ++ kpP 75 (mirR 48) k
  | .inl (.inr (.inr (.inr (a, b, c)))) => cenL 48 (hm a) (hm b) (hm c) ++ (⟨7, 108, 2, k⟩ :: kpP 109 (cenR 48) k)
  | .inr (.inl (.inl (.inl (.inl (a, b))))) => samL 48 (hm a) (hm b) ++ (isnL 58 57 ++ out1 61)
  | .inr (.inl (.inl (.inl (.inr (a, b, c))))) => volL 48 (hm a) (hm b) (hm c) ++ (isnL 62 61 ++ out1 65)
  | .inr (.inl (.inl (.inr (a, b, c)))) => volL 48 (hm a) (hm b) (hm c) ++ out1 61
  | .inr (.inl (.inr (.inl (a, b, c)))) => btwL 48 (hm a) (hm b) (hm c) ++ out1 85
  | .inr (.inl (.inr (.inr (a, b, c, d)))) => rndL 48 (hm a) (hm b) (hm c) (hm d) ++ (isnL 98 97 ++ out1 101)
  | .inr (.inr (.inl (.inl (p, l)))) => dotL 48 (hm p) (hm l) ++ (isnL 53 52 ++ out1 56)
  | .inr (.inr (.inl (.inr (l, m)))) => prodD 48 (hm l).x (hm m).y (hm l).y (hm m).x ++ (isnL 51 50 ++ out1 54)
  | .inr (.inr (.inr (.inl (l, m)))) => prodS 48 (hm l).x (hm m).x (hm l).y (hm m).y ++ (isnL 51 50 ++ out1 54)
  | .inr (.inr (.inr (.inr (l, m, n)))) => volL 48 (hm l) (hm m) (hm n) ++ (isnL 62 61 ++ out1 65)
def insC : Cmd → Nat
  | .inl (.inl (.inl (.inl (.inl ())))) => 2
  | .inl (.inl (.inl (.inl (.inr _)))) => 0
  | .inl (.inl (.inl (.inr _))) => 0
  | .inl (.inl (.inr _)) => 0
  | .inl (.inr _) => 0
  | .inr _ => 0
def cmdsL : List Cmd → Nat → Nat → List Stp
  | [], _, _ => []
  | c :: r, k, i => cmdL k i c ++ cmdsL r (k + 1) (i + insC c)

def t0 : T3 := ⟨0, 0, 0⟩
def th (D : List T3) (j : Nat) : T3 := D[j]?.getD t0
def inp (ins : List Int) (j : Nat) : Int := ins[j]?.getD 0
/-- What a construction gives, as it is made. -/
def valC (D : List T3) (ins : List Int) (i : Nat) : Cmd → T3
  | .inl (.inl (.inl (.inl (.inl ())))) => ⟨inp ins i, inp ins (i + 1), 1⟩
  | .inl (.inl (.inl (.inl (.inr (a, b))))) => midV (th D a) (th D b)
  | .inl (.inl (.inl (.inr (a, b)))) => crossV (th D a) (th D b)
  | .inl (.inl (.inr (.inl (p, l)))) => parV (th D p) (th D l)
  | .inl (.inl (.inr (.inr (p, l)))) => uprV (th D p) (th D l)
  | .inl (.inr (.inl (.inl (l, m)))) => crossV (th D l) (th D m)
  | .inl (.inr (.inl (.inr (p, l)))) => footV (th D p) (th D l)
  | .inl (.inr (.inr (.inl (p, l)))) => mirV (th D p) (th D l)
  | .inl (.inr (.inr (.inr (a, b, c)))) => cenV (th D a) (th D b) (th D c)
  | .inr _ => t0
/-- Nought: it cannot be made. -/
def stopC (m : T3) : Cmd → Int
  | .inl (.inl (.inl (.inl _))) => 1
  | .inl (.inl (.inl (.inr _))) => m.x * m.x + m.y * m.y
  | .inl (.inl (.inr _)) => 1
  | .inl (.inr (.inl (.inl _))) => m.w
  | .inl (.inr (.inl (.inr _))) => 1
  | .inl (.inr (.inr (.inl _))) => 1
  | .inl (.inr (.inr (.inr _))) => m.w
  | .inr _ => 1
def lettC : Cmd → UInt8
  | .inl (.inl (.inl (.inl _))) => 99
  | .inl (.inl (.inl (.inr _))) => 115
  | .inl (.inl (.inr _)) => 99
  | .inl (.inr (.inl (.inl _))) => 112
  | .inl (.inr (.inl (.inr _))) => 99
  | .inl (.inr (.inr _)) => 99
  | .inr _ => 99
def mul3 (m : T3) (f : Int) : T3 := ⟨m.x * f, m.y * f, m.w * f⟩
def facC (m : T3) (c : Cmd) : Int := if srt c = 80 then sgn m.w else 1
def askC (D : List T3) : Cmd → Int
  | .inl _ => 0
  | .inr (.inl (.inl (.inl (.inl (a, b))))) => isnV (samV (th D a) (th D b))
  | .inr (.inl (.inl (.inl (.inr (a, b, c))))) => isnV (volV (th D a) (th D b) (th D c))
  | .inr (.inl (.inl (.inr (a, b, c)))) => volV (th D a) (th D b) (th D c)
  | .inr (.inl (.inr (.inl (a, b, c)))) => btwV (th D a) (th D b) (th D c)
  | .inr (.inl (.inr (.inr (a, b, c, d)))) => isnV (rndV (th D a) (th D b) (th D c) (th D d))
  | .inr (.inr (.inl (.inl (p, l)))) => isnV (dotV (th D p) (th D l))
  | .inr (.inr (.inl (.inr (l, m)))) => isnV ((th D l).x * (th D m).y - (th D l).y * (th D m).x)
  | .inr (.inr (.inr (.inl (l, m)))) => isnV ((th D l).x * (th D m).x + (th D l).y * (th D m).y)
  | .inr (.inr (.inr (.inr (l, m, n)))) => isnV (volV (th D l) (th D m) (th D n))
/-- The report. -/
def semC (ins : List Int) : List Cmd → Nat → Nat → List T3 → ByteArray → ByteArray
  | [], _, _, _, s => s
  | c :: r, k, i, D, s =>
    if srt c = 63 then semC ins r (k + 1) i (D ++ [t0]) (s ++ ⟨#[if 0 < askC D c then 49 else 48]⟩)
    else if stopC (valC D ins i c) c = 0 then s ++ ⟨#[lettC c]⟩ ++ dec (k : Int)
    else semC ins r (k + 1) (i + insC c) (D ++ [mul3 (valC D ins i c) (facC (valC D ins i c) c)]) s

def isP (C : List Cmd) (a : Nat) : Prop := ∃ h : a < C.length, srt C[a] = 80
def isLn (C : List Cmd) (a : Nat) : Prop := ∃ h : a < C.length, srt C[a] = 76
def okC (C : List Cmd) : Cmd → Prop
  | .inl (.inl (.inl (.inl (.inl ())))) => True
  | .inl (.inl (.inl (.inl (.inr (a, b))))) => isP C a ∧ isP C b
  | .inl (.inl (.inl (.inr (a, b)))) => isP C a ∧ isP C b
  | .inl (.inl (.inr (.inl (p, l)))) => isP C p ∧ isLn C l
  | .inl (.inl (.inr (.inr (p, l)))) => isP C p ∧ isLn C l
  | .inl (.inr (.inl (.inl (l, m)))) => isLn C l ∧ isLn C m
  | .inl (.inr (.inl (.inr (p, l)))) => isP C p ∧ isLn C l
  | .inl (.inr (.inr (.inl (p, l)))) => isP C p ∧ isLn C l
  | .inl (.inr (.inr (.inr (a, b, c)))) => isP C a ∧ isP C b ∧ isP C c
  | .inr (.inl (.inl (.inl (.inl (a, b))))) => isP C a ∧ isP C b
  | .inr (.inl (.inl (.inl (.inr (a, b, c))))) => isP C a ∧ isP C b ∧ isP C c
  | .inr (.inl (.inl (.inr (a, b, c)))) => isP C a ∧ isP C b ∧ isP C c
  | .inr (.inl (.inr (.inl (a, b, c)))) => isP C a ∧ isP C b ∧ isP C c
  | .inr (.inl (.inr (.inr (a, b, c, d)))) => isP C a ∧ isP C b ∧ isP C c ∧ isP C d
  | .inr (.inr (.inl (.inl (p, l)))) => isP C p ∧ isLn C l
  | .inr (.inr (.inl (.inr (l, m)))) => isLn C l ∧ isLn C m
  | .inr (.inr (.inr (.inl (l, m)))) => isLn C l ∧ isLn C m
  | .inr (.inr (.inr (.inr (l, m, n)))) => isLn C l ∧ isLn C m ∧ isLn C n
def wt (W : List Nat) (j : Nat) : Nat := W[j]?.getD 0
def wtC (W : List Nat) : Cmd → Nat
  | .inl (.inl (.inl (.inl (.inl ())))) => 1
  | .inl (.inl (.inl (.inl (.inr (a, b))))) => wt W a + wt W b
  | .inl (.inl (.inl (.inr (a, b)))) => wt W a + wt W b
  | .inl (.inl (.inr (.inl (p, l)))) => wt W p + wt W l
  | .inl (.inl (.inr (.inr (p, l)))) => wt W p + wt W l
  | .inl (.inr (.inl (.inl (l, m)))) => wt W l + wt W m
  | .inl (.inr (.inl (.inr (p, l)))) => wt W p + wt W l + wt W l
  | .inl (.inr (.inr (.inl (p, l)))) => 2 * (wt W p + wt W l)
  | .inl (.inr (.inr (.inr (a, b, c)))) => 4 * (wt W a + wt W b + wt W c)
  | .inr _ => 0
/-- Right statements behind those of C, which weigh W. -/
def Wf : List Cmd → List Nat → List Cmd → Prop
  | _, _, [] => True
  | C, W, c :: r => okC C c ∧ wtC W c ≤ 64 ∧ Wf (C ++ [c]) (W ++ [wtC W c]) r
def cntI (r : List Cmd) : Nat := (r.map insC).sum

/-- c |v| is at most d A. -/
def BdM (c d A : Nat) (v : Int) : Prop := c * v.natAbs ≤ d * A
theorem BdM.mul {c d A c' d' A' : Nat} {x y : Int} (h : BdM c d A x) (k : BdM c' d' A' y) : BdM (c * c') (d * d') (A * A') (x * y) := by
  unfold BdM at *
  rw [Int.natAbs_mul]
  have := Nat.mul_le_mul h k
  grind
theorem BdM.add {c d d' A : Nat} {x y : Int} (h : BdM c d A x) (k : BdM c d' A y) : BdM c (d + d') A (x + y) := by
  unfold BdM at *
  have h1 : c * (x + y).natAbs ≤ c * (x.natAbs + y.natAbs) := Nat.mul_le_mul_left c (Int.natAbs_add_le x y)
  grind
theorem BdM.neg {c d A : Nat} {x : Int} (h : BdM c d A x) : BdM c d A (0 - x) := by
  unfold BdM at *; rw [Int.zero_sub, Int.natAbs_neg]; exact h
theorem BdM.sub {c d d' A : Nat} {x y : Int} (h : BdM c d A x) (k : BdM c d' A y) : BdM c (d + d') A (x - y) := by
  have := h.add k.neg
  rwa [show x + (0 - y) = x - y by omega] at this
theorem BdM.comm {c d A A' : Nat} {x : Int} (h : BdM c d (A * A') x) : BdM c d (A' * A) x := by rw [Nat.mul_comm]; exact h
def B3 (c d A : Nat) (v : T3) : Prop := BdM c d A v.x ∧ BdM c d A v.y ∧ BdM c d A v.w
theorem B3.cross {c d A c' d' A' : Nat} {u v : T3} (h : B3 c d A u) (k : B3 c' d' A' v) : B3 (c * c') (d * d' + d * d') (A * A') (crossV u v) :=
  ⟨(h.2.1.mul k.2.2).sub (h.2.2.mul k.2.1), (h.2.2.mul k.1).sub (h.1.mul k.2.2), (h.1.mul k.2.1).sub (h.2.1.mul k.1)⟩
theorem B3.mid {c d A A' : Nat} {u v : T3} (h : B3 c d A u) (k : B3 c d A' v) : B3 (c * c) (d * d + d * d) (A * A') (midV u v) :=
  ⟨(h.1.mul k.2.2).add (k.1.mul h.2.2).comm, (h.2.1.mul k.2.2).add (k.2.1.mul h.2.2).comm, (h.2.2.mul k.2.2).add (h.2.2.mul k.2.2)⟩
theorem BdM.up {c d d' A : Nat} {x : Int} (h : BdM c d A x) (k : d ≤ d') : BdM c d' A x := Nat.le_trans h (Nat.mul_le_mul_right A k)
theorem B3.par {c d A c' d' A' : Nat} {p l : T3} (h : B3 c d A p) (k : B3 c' d' A' l) : B3 (c' * c) (d' * d + d' * d) (A' * A) (parV p l) :=
  ⟨(k.1.mul h.2.2).up (by omega), (k.2.1.mul h.2.2).up (by omega), ((k.1.mul h.1).add (k.2.1.mul h.2.1)).neg⟩
theorem B3.upr {c d A c' d' A' : Nat} {p l : T3} (h : B3 c d A p) (k : B3 c' d' A' l) : B3 (c' * c) (d' * d + d' * d) (A' * A) (uprV p l) := h.par ⟨k.2.1, k.1.neg, k.2.2⟩
def Bw (w : Nat) (v : T3) : Prop := B3 3 1 (297 ^ w) v
theorem BdM.fin {c d A A' : Nat} {x : Int} (h : BdM c d A x) (h0 : 0 < c) (hc : 3 * d ≤ c) (hA : A ≤ A') : BdM 3 1 A' x := by
  unfold BdM at *
  have h2 : 3 * d * A ≤ c * A := Nat.mul_le_mul_right A hc
  have h3 : c * (3 * x.natAbs) ≤ c * A := by grind
  have := Nat.le_of_mul_le_mul_left h3 h0
  omega
theorem B3.fin {c d A w : Nat} {x : T3} (h : B3 c d A x) (h0 : 0 < c) (hc : 3 * d ≤ c) (hA : A ≤ 297 ^ w) : Bw w x := ⟨h.1.fin h0 hc hA, h.2.1.fin h0 hc hA, h.2.2.fin h0 hc hA⟩
theorem p297 (a b : Nat) : 297 ^ a * 297 ^ b ≤ 297 ^ (a + b) := by rw [Nat.pow_add]; exact Nat.le_refl _
theorem q297 {a b : Nat} (h : a ≤ b) : 297 ^ a ≤ 297 ^ b := Nat.pow_le_pow_right (by omega) h
theorem Bw.cross {a b : Nat} {u v : T3} (h : Bw a u) (k : Bw b v) : Bw (a + b) (crossV u v) := (B3.cross h k).fin (by omega) (by omega) (p297 a b)
theorem Bw.mid {a b : Nat} {u v : T3} (h : Bw a u) (k : Bw b v) : Bw (a + b) (midV u v) := (B3.mid h k).fin (by omega) (by omega) (p297 a b)
theorem Bw.par {a b : Nat} {u v : T3} (h : Bw a u) (k : Bw b v) : Bw (a + b) (parV u v) := (B3.par h k).fin (by omega) (by omega) (by rw [Nat.add_comm]; exact p297 b a)
theorem Bw.upr {a b : Nat} {u v : T3} (h : Bw a u) (k : Bw b v) : Bw (a + b) (uprV u v) := (B3.upr h k).fin (by omega) (by omega) (by rw [Nat.add_comm]; exact p297 b a)
theorem Bw.foot {a b : Nat} {u v : T3} (h : Bw a u) (k : Bw b v) : Bw (a + b + b) (footV u v) := (B3.cross (B3.upr h k) k).fin (by omega) (by omega) (by rw [← Nat.pow_add, ← Nat.pow_add]; exact q297 (by omega))
theorem Bw.mir {a b : Nat} {u v : T3} (h : Bw a u) (k : Bw b v) : Bw (2 * (a + b)) (mirV u v) := by
  have f := B3.cross (B3.upr h k) k
  have e : 297 ^ b * 297 ^ a * 297 ^ b * 297 ^ a ≤ 297 ^ (2 * (a + b)) := by rw [← Nat.pow_add, ← Nat.pow_add, ← Nat.pow_add]; exact q297 (by omega)
  refine ⟨(((f.1.add f.1).mul h.2.2).sub (h.1.mul f.2.2).comm).fin (by omega) (by omega) e, (((f.2.1.add f.2.1).mul h.2.2).sub (h.2.1.mul f.2.2).comm).fin (by omega) (by omega) e, (f.2.2.mul h.2.2).fin (by omega) (by omega) e⟩
theorem Bw.cen {a b c : Nat} {u v t : T3} (h : Bw a u) (k : Bw b v) (j : Bw c t) : Bw (4 * (a + b + c)) (cenV u v t) := by
  have h1 := B3.upr (B3.mid h k) (B3.cross h k)
  have h2 := B3.upr (B3.mid h j) (B3.cross h j)
  refine (B3.cross h1 h2).fin (by omega) (by omega) ?_
  rw [← Nat.pow_add, ← Nat.pow_add, ← Nat.pow_add, ← Nat.pow_add, ← Nat.pow_add]; exact q297 (by omega)
theorem BdM.sg {A : Nat} {x f : Int} (h : BdM 3 1 A x) (hf : f.natAbs ≤ 1) : BdM 3 1 A (x * f) := by
  unfold BdM at *
  rw [Int.natAbs_mul]
  have := Nat.mul_le_mul_left x.natAbs hf
  omega
theorem Bw.sg {w : Nat} {v : T3} {f : Int} (h : Bw w v) (hf : f.natAbs ≤ 1) : Bw w (mul3 v f) := ⟨h.1.sg hf, h.2.1.sg hf, h.2.2.sg hf⟩
theorem sgn_abs (x : Int) : (sgn x).natAbs ≤ 1 := by rcases sgn_cases x with h | h | h <;> rw [h.1] <;> decide
theorem facC_abs (m : T3) (c : Cmd) : (facC m c).natAbs ≤ 1 := by
  unfold facC; split
  · exact sgn_abs _
  · decide
theorem Bw.sm {w M : Nat} {v : T3} (h : Bw w v) (hw : w ≤ 64) (hM : 297 ^ 64 ≤ M) : Sm M v.x ∧ Sm M v.y ∧ Sm M v.w := by
  have q := q297 hw
  obtain ⟨h1, h2, h3⟩ := h
  unfold BdM at h1 h2 h3
  unfold Sm
  generalize 297 ^ w = A at *
  generalize 297 ^ 64 = A' at *
  omega
end Go.Proofs.YtmnfndpbblpjiaaDoor.Pu

/- What is made of right statements tells their report. -/
namespace Go.Proofs.YtmnfndpbblpjiaaDoor.Pu

section
variable {B : Nat} {ins : List Int} {l : List Stp} {R R' : List Int} {Q : List Int → Prop} {M : Nat}
theorem rn_set {op x y z : Nat} (v : Int) (hR : R.length = 128) (hs : x < 128) (hop : op < 6) (hv : valOf ⟨op, x, y, z⟩ R ins = v) (hb : v.natAbs < B) (k : ∀ R', R'.length = 128 → (∀ r, r ≠ x → reg R' r = reg R r) → reg R' x = v → Rn B ins l R' Q) : Rn B ins (⟨op, x, y, z⟩ :: l) R Q := by
  have hb' : ¬ B ≤ (valOf ⟨op, x, y, z⟩ R ins).natAbs := by rw [hv]; omega
  obtain ⟨R2, h2, k2⟩ := k (R.set x v) (by simpa using hR) (fun r hr => reg_set_ne hr) (reg_set_eq (by omega))
  refine ⟨R2, h2, fun rest st => ?_⟩
  rw [List.cons_append, play_set hop hb', hv]
  exact k2 rest st
/-- At home: three registers are set, nothing else below 48. -/
def Kept (k : Nat) (v : T3) (R R' : List Int) : Prop := R'.length = 128 ∧ (∀ r, r < 48 → r ≠ 3 * k → r ≠ 3 * k + 1 → r ≠ 3 * k + 2 → reg R' r = reg R r) ∧ reg R' (3 * k) = v.x ∧ reg R' (3 * k + 1) = v.y ∧ reg R' (3 * k + 2) = v.w
theorem mul_abs {x f : Int} {N : Nat} (hx : Sm N x) (hf : f.natAbs ≤ 1) (hb : N < B) : (x * f).natAbs < B := by
  unfold Sm at hx
  rw [Int.natAbs_mul]
  have := Nat.mul_le_mul_left x.natAbs hf
  omega
theorem rn_kp3 {s N k : Nat} {m : Tr} {v : T3} {f : Int} (hR : R.length = 128) (hk : k < 16) (hs : 48 ≤ s) (hm : m.x ≥ 48 ∧ m.y ≥ 48 ∧ m.w ≥ 48) (hv : Tv s N R m v) (hf : reg R s = f) (hf1 : f.natAbs ≤ 1) (hB : N < B) (kk : ∀ R', Kept k (mul3 v f) R R' → Rn B ins l R' Q) : Rn B ins (kp3 s m k ++ l) R Q := by
  refine rn_set (v.x * f) hR (by omega) (by omega) (val_mul hv.1.2.1 hf) (mul_abs hv.1.2.2 hf1 hB) ?_
  intro R1 n1 k1 e1
  refine rn_set (v.y * f) n1 (by omega) (by omega) (val_mul (by rw [k1 _ (by omega)]; exact hv.2.1.2.1) (by rw [k1 _ (by omega)]; exact hf)) (mul_abs hv.2.1.2.2 hf1 hB) ?_
  intro R2 n2 k2 e2
  refine rn_set (v.w * f) n2 (by omega) (by omega) (val_mul (by rw [k2 _ (by omega), k1 _ (by omega)]; exact hv.2.2.2.1) (by rw [k2 _ (by omega), k1 _ (by omega)]; exact hf)) (mul_abs hv.2.2.2.2 hf1 hB) ?_
  intro R3 n3 k3 e3
  exact kk R3 ⟨n3, fun r _ h1 h2 h3 => by rw [k3 _ h3, k2 _ h2, k1 _ h1], by rw [k3 _ (by omega), k2 _ (by omega)]; exact e1, by rw [k3 _ (by omega)]; exact e2, e3⟩
theorem Kept.lo {k s : Nat} {v : T3} {R1 R2 : List Int} (h : Lo s R R1) (hs : 48 ≤ s) (kk : Kept k v R1 R2) : Kept k v R R2 := ⟨kk.1, fun r h1 h2 h3 h4 => by rw [kk.2.1 r h1 h2 h3 h4, h.2 r (by omega)], kk.2.2⟩
theorem rn_kpP {s N k : Nat} {m : Tr} {v : T3} (hR : R.length = 128) (hk : k < 16) (hs : 48 ≤ s) (hs2 : s < 128) (hm : m.x ≥ 48 ∧ m.y ≥ 48 ∧ m.w ≥ 48) (h1 : 1 ≤ N) (hv : Tv s N R m v) (hB : N < B) (kk : ∀ R', Kept k (mul3 v (sgn v.w)) R R' → Rn B ins l R' Q) : Rn B ins (kpP s m k ++ l) R Q := by
  refine rn_work (sgn v.w) N hR hs2 (by omega) (val_sgn hv.2.2.2.1) (.sgn _ h1) hB ?_
  intro R1 l1 v1
  have hv1 : Tv s N R1 m v := hv.lo l1 s N (Nat.le_refl _) (Nat.le_refl _)
  refine rn_kp3 l1.1 hk hs hm hv1 v1.2.1 (sgn_abs _) hB ?_
  intro R2 k2
  exact kk R2 (Kept.lo l1 hs k2)
theorem rn_kpL {s N k : Nat} {m : Tr} {v : T3} (hR : R.length = 128) (hk : k < 16) (hs : 48 ≤ s) (hs2 : s < 128) (hm : m.x ≥ 48 ∧ m.y ≥ 48 ∧ m.w ≥ 48) (h1 : 1 ≤ N) (hv : Tv s N R m v) (hB : N < B) (kk : ∀ R', Kept k (mul3 v 1) R R' → Rn B ins l R' Q) : Rn B ins (kpL s m k ++ l) R Q := by
  refine rn_work 1 N hR hs2 (by omega) val_con (by unfold Sm; simpa using h1) hB ?_
  intro R1 l1 v1
  have hv1 : Tv s N R1 m v := hv.lo l1 s N (Nat.le_refl _) (Nat.le_refl _)
  refine rn_kp3 l1.1 hk hs hm hv1 v1.2.1 (by decide) hB ?_
  intro R2 k2
  exact kk R2 (Kept.lo l1 hs k2)

/-- The homes hold what has been made; it weighs no more than it may. -/
structure Inv (M : Nat) (C : List Cmd) (W : List Nat) (D : List T3) (R : List Int) : Prop where
  len : R.length = 128
  dl : D.length = C.length
  wl : W.length = C.length
  w64 : ∀ j, wt W j ≤ 64
  at_ : ∀ j (h : j < C.length), srt C[j] ≠ 63 → reg R (3 * j) = (th D j).x ∧ reg R (3 * j + 1) = (th D j).y ∧ reg R (3 * j + 2) = (th D j).w ∧ Bw (wt W j) (th D j)
theorem th_snoc {D : List T3} {v : T3} {j : Nat} (h : j < D.length) : th (D ++ [v]) j = th D j := by simp [th, List.getElem?_append_left h]
theorem th_last (D : List T3) (v : T3) : th (D ++ [v]) D.length = v := by simp [th]
theorem wt_snoc {W : List Nat} {v j : Nat} (h : j < W.length) : wt (W ++ [v]) j = wt W j := by simp [wt, List.getElem?_append_left h]
theorem wt_last (W : List Nat) (v : Nat) : wt (W ++ [v]) W.length = v := by simp [wt]
theorem wt_out {W : List Nat} {j : Nat} (h : W.length ≤ j) : wt W j = 0 := by simp [wt, List.getElem?_eq_none h]
theorem w64_snoc {W : List Nat} {v : Nat} (h : ∀ j, wt W j ≤ 64) (hv : v ≤ 64) : ∀ j, wt (W ++ [v]) j ≤ 64 := by
  intro j
  by_cases h1 : j < W.length
  · rw [wt_snoc h1]; exact h j
  · by_cases h2 : j = W.length
    · subst h2; rw [wt_last]; exact hv
    · rw [wt_out (by simp; omega)]; omega
variable {C : List Cmd} {W : List Nat} {D : List T3}
theorem Inv.tv (h : Inv M C W D R) (hM : 297 ^ 64 ≤ M) (hk : C.length ≤ 16) {j : Nat} (hj : j < C.length) (hs : srt C[j] ≠ 63) : Tv 48 M R (hm j) (th D j) := by
  obtain ⟨a1, a2, a3, a4⟩ := h.at_ j hj hs
  obtain ⟨b1, b2, b3⟩ := a4.sm (h.w64 j) hM
  have hx : (hm j).x = 3 * j := rfl
  have hy : (hm j).y = 3 * j + 1 := rfl
  have hw : (hm j).w = 3 * j + 2 := rfl
  exact ⟨⟨by omega, a1, b1⟩, ⟨by omega, a2, b2⟩, ⟨by omega, a3, b3⟩⟩
theorem Inv.P (h : Inv M C W D R) (hM : 297 ^ 64 ≤ M) (hk : C.length ≤ 16) {j : Nat} (hj : isP C j) : Tv 48 M R (hm j) (th D j) := h.tv hM hk hj.1 (by rw [hj.2]; omega)
theorem Inv.L (h : Inv M C W D R) (hM : 297 ^ 64 ≤ M) (hk : C.length ≤ 16) {j : Nat} (hj : isLn C j) : Tv 48 M R (hm j) (th D j) := h.tv hM hk hj.1 (by rw [hj.2]; omega)
theorem Inv.bP (h : Inv M C W D R) {j : Nat} (hj : isP C j) : Bw (wt W j) (th D j) := (h.at_ j hj.1 (by rw [hj.2]; omega)).2.2.2
theorem Inv.bL (h : Inv M C W D R) {j : Nat} (hj : isLn C j) : Bw (wt W j) (th D j) := (h.at_ j hj.1 (by rw [hj.2]; omega)).2.2.2
theorem Inv.ask (h : Inv M C W D R) (hk : C.length < 16) {c : Cmd} (hc : srt c = 63) {s : Nat} (hs : 48 ≤ s) (l : Lo s R R') : Inv M (C ++ [c]) (W ++ [wtC W c]) (D ++ [t0]) R' := by
  have h0 : wtC W c = 0 := by cases c using Cmd.el <;> simp [srt] at hc <;> rfl
  refine ⟨l.1, by simp [h.dl], by simp [h.wl], w64_snoc h.w64 (by omega), fun j hj hn => ?_⟩
  by_cases hl : j < C.length
  · rw [List.getElem_append_left hl] at hn
    obtain ⟨a1, a2, a3, a4⟩ := h.at_ j hl hn
    rw [th_snoc (by rw [h.dl]; exact hl), wt_snoc (by rw [h.wl]; exact hl), l.2 _ (by omega), l.2 _ (by omega), l.2 _ (by omega)]
    exact ⟨a1, a2, a3, a4⟩
  · have : j = C.length := by simp at hj; omega
    subst this
    simp at hn; exact absurd hc hn
theorem Inv.made (h : Inv M C W D R) (hk : C.length < 16) {c : Cmd} {v : T3} (kk : Kept C.length v R R') (hw : wtC W c ≤ 64) (hb : Bw (wtC W c) v) : Inv M (C ++ [c]) (W ++ [wtC W c]) (D ++ [v]) R' := by
  refine ⟨kk.1, by simp [h.dl], by simp [h.wl], w64_snoc h.w64 hw, fun j hj hn => ?_⟩
  by_cases hl : j < C.length
  · rw [List.getElem_append_left hl] at hn
    obtain ⟨a1, a2, a3, a4⟩ := h.at_ j hl hn
    rw [th_snoc (by rw [h.dl]; exact hl), wt_snoc (by rw [h.wl]; exact hl), kk.2.1 _ (by omega) (by omega) (by omega) (by omega), kk.2.1 _ (by omega) (by omega) (by omega) (by omega), kk.2.1 _ (by omega) (by omega) (by omega) (by omega)]
    exact ⟨a1, a2, a3, a4⟩
  · have : j = C.length := by simp at hj; omega
    subst this
    rw [← h.dl, th_last, h.dl, ← h.wl, wt_last, h.wl]
    exact ⟨kk.2.2.1, kk.2.2.2.1, kk.2.2.2.2, hb⟩
end
end Go.Proofs.YtmnfndpbblpjiaaDoor.Pu

/- The code that squares two inputs, plainly: it is right, and what it tells. -/
namespace Go.Proofs.YtmnfndpbblpjiaaDoor.Pu

def sqA : List Stp := [⟨0, 0, 0, 0⟩, ⟨0, 1, 1, 0⟩]
def sqM : Nat → List Stp
  | 0 => []
  | k + 1 => sqM k ++ [⟨4, 0, 0, 0⟩, ⟨4, 1, 1, 1⟩]
def sqE : List Stp := [⟨2, 2, 0, 1⟩, ⟨3, 3, 0, 1⟩, ⟨4, 4, 2, 3⟩, ⟨4, 5, 0, 0⟩, ⟨4, 6, 1, 1⟩, ⟨3, 7, 5, 6⟩, ⟨3, 8, 4, 7⟩, ⟨1, 9, 1, 0⟩, ⟨2, 10, 8, 9⟩]
def sqO : List Stp := [⟨6, 10, 0, 0⟩, ⟨6, 3, 0, 0⟩, ⟨7, 8, 0, 15⟩]
def sqL (k : Nat) : List Stp := sqA ++ sqM k ++ sqE ++ sqO
def itS : Nat → Int → Int
  | 0, x => x
  | k + 1, x => itS k x * itS k x
theorem itS_abs (k : Nat) (x y : Int) : (itS k y).natAbs < (itS k x).natAbs ↔ y.natAbs < x.natAbs := by
  induction k with
  | zero => rfl
  | succ k ih =>
    simp only [itS, Int.natAbs_mul]
    rw [← ih]
    exact Nat.mul_self_lt_mul_self_iff
theorem itS_nn (k : Nat) (x : Int) : 0 ≤ itS (k + 1) x := by
  simp only [itS]
  rcases Int.le_total 0 (itS k x) with h | h
  · exact Int.mul_nonneg h h
  · exact Int.mul_nonneg_of_nonpos_of_nonpos h h
theorem itS_gt (k : Nat) (x y : Int) : itS (k + 1) y < itS (k + 1) x ↔ y.natAbs < x.natAbs := by
  rw [← itS_abs (k + 1)]
  have h1 := itS_nn k x
  have h2 := itS_nn k y
  omega
theorem itS_le (k : Nat) (x : Int) (h : x.natAbs ≤ 100) : (itS k x).natAbs ≤ 100 ^ 2 ^ k := by
  induction k with
  | zero => simpa [itS] using h
  | succ k ih =>
    simp only [itS, Int.natAbs_mul]
    have := Nat.mul_le_mul ih ih
    rwa [← Nat.pow_add, ← Nat.two_mul, ← Nat.pow_succ'] at this
section
variable {B : Nat} {ins : List Int} {l : List Stp} {R : List Int} {Q : List Int → Prop} {a b : Int}
theorem rn_sq (k : Nat) (hk : ∀ j, j ≤ k → (itS j a).natAbs < B ∧ (itS j b).natAbs < B) (hR : R.length = 128) (h0 : reg R 0 = a) (h1 : reg R 1 = b)
    (kk : ∀ R', R'.length = 128 → reg R' 0 = itS k a → reg R' 1 = itS k b → Rn B ins l R' Q) : Rn B ins (sqM k ++ l) R Q := by
  induction k generalizing l with
  | zero => exact kk R hR h0 h1
  | succ k ih =>
    simp only [sqM, List.append_assoc]
    refine ih (fun j hj => hk j (by omega)) (fun R1 n1 e0 e1 => ?_)
    have hb := hk (k + 1) (Nat.le_refl _)
    refine rn_set (itS (k + 1) a) n1 (by omega) (by omega) (val_mul e0 e0) hb.1 ?_
    intro R2 n2 k2 f2
    refine rn_set (itS (k + 1) b) n2 (by omega) (by omega) (val_mul (by rw [k2 _ (by omega)]; exact e1) (by rw [k2 _ (by omega)]; exact e1)) hb.2 ?_
    intro R3 n3 k3 f3
    exact kk R3 n3 (by rw [k3 _ (by omega)]; exact f2) f3
theorem mul_lt {M : Nat} {x y : Int} (hx : x.natAbs ≤ 2 * M) (hy : y.natAbs ≤ 2 * M) : (x * y).natAbs ≤ 4 * (M * M) := by
  rw [Int.natAbs_mul]
  have := Nat.mul_le_mul hx hy
  grind
theorem rn_sqE {M : Nat} (ha : a.natAbs ≤ M) (hb : b.natAbs ≤ M) (h1M : 1 ≤ M) (hB : 8 * (M * M) < B) (hR : R.length = 128) (h0 : reg R 0 = a) (h1 : reg R 1 = b)
    (kk : ∀ R', reg R' 10 = 1 → reg R' 3 = a - b → reg R' 8 = 0 → Rn B ins l R' Q) : Rn B ins (sqE ++ l) R Q := by
  have hM : M ≤ M * M := Nat.le_mul_of_pos_right M h1M
  have m1 := mul_lt (M := M) (x := a + b) (y := a - b) (by omega) (by omega)
  have m2 := mul_lt (M := M) (x := a) (y := a) (by omega) (by omega)
  have m3 := mul_lt (M := M) (x := b) (y := b) (by omega) (by omega)
  have hz : (a + b) * (a - b) - (a * a - b * b) = 0 := by grind
  refine rn_set (a + b) hR (by omega) (by omega) (val_add h0 h1) (by omega) ?_
  intro R1 n1 k1 e1
  refine rn_set (a - b) n1 (by omega) (by omega) (val_sub (by rw [k1 _ (by omega)]; exact h0) (by rw [k1 _ (by omega)]; exact h1)) (by omega) ?_
  intro R2 n2 k2 e2
  refine rn_set ((a + b) * (a - b)) n2 (by omega) (by omega) (val_mul (by rw [k2 _ (by omega)]; exact e1) e2) (by omega) ?_
  intro R3 n3 k3 e3
  have a3 : reg R3 0 = a := by rw [k3 _ (by omega), k2 _ (by omega), k1 _ (by omega)]; exact h0
  have b3 : reg R3 1 = b := by rw [k3 _ (by omega), k2 _ (by omega), k1 _ (by omega)]; exact h1
  refine rn_set (a * a) n3 (by omega) (by omega) (val_mul a3 a3) (by omega) ?_
  intro R4 n4 k4 e4
  refine rn_set (b * b) n4 (by omega) (by omega) (val_mul (by rw [k4 _ (by omega)]; exact b3) (by rw [k4 _ (by omega)]; exact b3)) (by omega) ?_
  intro R5 n5 k5 e5
  refine rn_set (a * a - b * b) n5 (by omega) (by omega) (val_sub (by rw [k5 _ (by omega)]; exact e4) e5) (by omega) ?_
  intro R6 n6 k6 e6
  refine rn_set 0 n6 (by omega) (by omega) ((val_sub (by rw [k6 _ (by omega), k5 _ (by omega), k4 _ (by omega)]; exact e3) e6).trans hz) (by show 0 < B; omega) ?_
  intro R7 n7 k7 e7
  refine rn_set 1 n7 (by omega) (by omega) (val_con (y := 1)) (by show 1 < B; omega) ?_
  intro R8 n8 k8 e8
  refine rn_set 1 n8 (by omega) (by omega) ((val_add (a := 0) (b := 1) (by rw [k8 _ (by omega)]; exact e7) e8).trans rfl) (by show 1 < B; omega) ?_
  intro R9 n9 k9 e9
  exact kk R9 e9 (by rw [k9 _ (by omega), k8 _ (by omega), k7 _ (by omega), k6 _ (by omega), k5 _ (by omega), k4 _ (by omega), k3 _ (by omega)]; exact e2) (by rw [k9 _ (by omega), k8 _ (by omega)]; exact e7)
end
/-- What it tells. -/
def sqT (k : Nat) (x y : Int) : ByteArray := ⟨#[49]⟩ ++ ⟨#[if itS k y < itS k x then 49 else 48]⟩ ++ ⟨#[115]⟩ ++ dec 15
theorem pow_8000 {nn k : Nat} (hn : nn = 8000) (hk : k ≤ 10) : 8 * (100 ^ 2 ^ k * 100 ^ 2 ^ k) < 10 ^ nn := by
  have h1 : 2 ^ k ≤ 2 ^ 10 := Nat.pow_le_pow_right (by omega) hk
  have h2 : (100 : Nat) ^ 2 ^ k * 100 ^ 2 ^ k = 10 ^ (4 * 2 ^ k) := by
    rw [← Nat.pow_add, show (100 : Nat) = 10 ^ 2 by rfl, ← Nat.pow_mul]
    congr 1; omega
  rw [h2]
  have h3 : 8 * 10 ^ (4 * 2 ^ k) ≤ 10 ^ (4 * 2 ^ k + 1) := by rw [Nat.pow_succ]; omega
  have h4 : (10 : Nat) ^ (4 * 2 ^ k + 1) < 10 ^ nn := Nat.pow_lt_pow_right (by omega) (by omega)
  omega
theorem sq_play {B nn : Nat} (hB : B = 10 ^ nn) (hn : nn = 8000) (k : Nat) (hk : k ≤ 10) (x y : Int) (hx : x.natAbs ≤ 99) (hy : y.natAbs ≤ 99) :
    play B [x, y] (sqL k) (List.replicate 128 0) ⟨#[]⟩ = (sqT k x y, 0) := by
  have hlt : ∀ j, j ≤ 10 → 8 * (100 ^ 2 ^ j * 100 ^ 2 ^ j) < B := fun j hj => by rw [hB]; exact pow_8000 hn hj
  have hbd : ∀ j, j ≤ k → (itS j x).natAbs < B ∧ (itS j y).natAbs < B := fun j hj => by
    have h1 := hlt j (by omega)
    have h2 := itS_le j x (by omega)
    have h3 := itS_le j y (by omega)
    have h4 : 1 ≤ 100 ^ 2 ^ j := Nat.one_le_pow _ _ (by omega)
    have h5 := Nat.le_mul_of_pos_right (100 ^ 2 ^ j) h4
    generalize 100 ^ 2 ^ j = P at *
    generalize P * P = PP at *
    omega
  have key : Rn B [x, y] (sqA ++ (sqM k ++ (sqE ++ []))) (List.replicate 128 0) (fun R => reg R 10 = 1 ∧ reg R 3 = itS k x - itS k y ∧ reg R 8 = 0) := by
    have hb0 := hbd 0 (by omega)
    refine rn_set x (by simp) (by omega) (by omega) (val_in rfl) hb0.1 ?_
    intro R1 n1 k1 e1
    refine rn_set y n1 (by omega) (by omega) (val_in rfl) hb0.2 ?_
    intro R2 n2 k2 e2
    refine rn_sq k hbd n2 (by rw [k2 _ (by omega)]; exact e1) e2 ?_
    intro R3 n3 e3 f3
    refine rn_sqE (M := 100 ^ 2 ^ k) (itS_le k x (by omega)) (itS_le k y (by omega)) (Nat.one_le_pow _ _ (by omega)) (hlt k hk) n3 e3 f3 ?_
    intro R4 h1 h2 h3
    exact rn_nil ⟨h1, h2, h3⟩
  obtain ⟨R, ⟨h1, h2, h3⟩, hp⟩ := key
  have := hp sqO ⟨#[]⟩
  rw [show sqL k = sqA ++ (sqM k ++ (sqE ++ [])) ++ sqO by simp [sqL], this]
  unfold sqO
  rw [play_out rfl, play_out rfl, play_end (by decide) h3, h1, h2]
  have hc : (0 < itS k x - itS k y) ↔ itS k y < itS k x := by omega
  simp only [hc]
  rfl
theorem sqM_len (k : Nat) : (sqM k).length = 2 * k := by
  induction k with
  | zero => rfl
  | succ k ih => simp [sqM, ih]; omega
theorem sqL_len (k : Nat) : (sqL k).length = 14 + 2 * k := by simp [sqL, sqA, sqE, sqO, sqM_len]; omega
theorem sqL_small (k : Nat) : ∀ t ∈ sqL k, Small t := by
  have hm : ∀ j, ∀ t ∈ sqM j, Small t := fun j => by
    induction j with
    | zero => intro t ht; cases ht
    | succ j ih =>
      intro t ht
      rcases List.mem_append.1 ht with ht | ht
      · exact ih t ht
      · simp at ht; rcases ht with rfl | rfl <;> exact ⟨by decide, by decide, by decide, by decide⟩
  intro t ht
  unfold sqL at ht
  rcases List.mem_append.1 ht with ht | ht
  · rcases List.mem_append.1 ht with ht | ht
    · rcases List.mem_append.1 ht with ht | ht
      · simp [sqA] at ht; rcases ht with rfl | rfl <;> exact ⟨by decide, by decide, by decide, by decide⟩
      · exact hm k t ht
    · simp [sqE] at ht; rcases ht with rfl | rfl | rfl | rfl | rfl | rfl | rfl | rfl | rfl <;> exact ⟨by decide, by decide, by decide, by decide⟩
  · simp [sqO] at ht; rcases ht with rfl | rfl | rfl <;> exact ⟨by decide, by decide, by decide, by decide⟩
def rightAll (q : List Stp) : Bool := (List.range q.length).all fun j => rightB q j (q[j]?.getD ⟨0, 0, 0, 0⟩) 11 2
theorem sq_right : ∀ k, k < 11 → rightAll (sqL k) = true := by decide +kernel
theorem sq_vfy (k : Nat) (hk : k ≤ 10) : vfy ⟨(joined 11 2 (sqL k)).toArray⟩ = (0, 0) := by
  have hl := sqL_len k
  refine join_vfy (by omega) (by omega) (by omega) (by omega) (sqL_small k) ((okL_iff _ _ _).1 fun j hj => ?_)
  have h := sq_right k (by omega)
  unfold rightAll at h
  rw [List.all_eq_true] at h
  have := h j (by simpa using hj)
  rwa [List.getElem?_eq_getElem hj] at this
end Go.Proofs.YtmnfndpbblpjiaaDoor.Pu

/- rulerkeep's bit. -/
namespace Go.Proofs.YtmnfndpbblpjiaaDoor
open Go.RowKit Pu
def bitB (b : Bool) : ByteArray := if b then ⟨#[49]⟩ else ⟨#[48]⟩
set_option maxHeartbeats 400000 in
theorem bit_any (b : Bool) (w : World) : Calls Tryd.prog 12 #[.bool b] w fun e w' => e = .returned (.string (bitB b)) ∧ w = w' := by
  cases b
  · go_enter Tryd.func12, Tryd.ntmps12
    go_wp2_with fail
    go_ret
    exact ⟨rfl, rfl⟩
  · go_enter Tryd.func12, Tryd.ntmps12
    go_wp2_with fail
    go_ret
    exact ⟨rfl, rfl⟩
end Go.Proofs.YtmnfndpbblpjiaaDoor

/- rulerkeep's Squares. -/
namespace Go.Proofs.YtmnfndpbblpjiaaDoor
open Go.RowKit Pu

theorem wr8 {n : Nat} (h : n < 256) : IntKind.u8.wrap (n : Int) = (n : Int) := by simp [IntKind.wrap, IntKind.signed, IntKind.bits]; omega
set_option maxHeartbeats 400000 in
theorem step_any (t : Stp) (ht : Small t) (w : World) : Calls Tryd.prog 15 #[.int .i64 t.op, .int .i64 t.x, .int .i64 t.y, .int .i64 t.z] w fun e w' => e = .returned (S (stB t)) ∧ Mod (fun _ => False) w w' := by
  have HB : Hid (bvs (stB t) = pcells t) := bvs_st ht
  obtain ⟨h1, h2, h3, h4⟩ := ht
  have w1 := wr8 h1
  have w2 := wr8 h2
  have w3 := wr8 h3
  have w4 := wr8 h4
  have hO := owns_built (heap_alloc_new w (.cells #[.int .u8 t.op, .int .u8 t.x, .int .u8 t.y, .int .u8 t.z] 5)) (by simp)
  have hO2 : (w.alloc (.cells #[.int .u8 t.op, .int .u8 t.x, .int .u8 t.y, .int .u8 t.z] 5)).ownsRow w.heap.size 5 1 (.slice (some ⟨w.heap.size, 0, none⟩) 4 4) 4 (bvs (stB t)) := by
    rw [HB.out]; exact hO
  have hcv := convert_owned (P := Tryd.prog) hO2 rfl Tryd.underlying38 Tryd.underlying5 Tryd.underlying9
  have hm : Mod (fun _ => False) w (w.alloc (.cells #[.int .u8 t.op, .int .u8 t.x, .int .u8 t.y, .int .u8 t.z] 5)) := (Mod.refl _ w).alloc _
  have HM : Hid _ := hm
  clear hO hO2 hm h1 h2 h3 h4
  go_enter Tryd.func15, Tryd.ntmps15
  go_wp2_with fail
  go_ret
  exact ⟨rfl, HM.out⟩
theorem step_var (t : Stp) (ht : Small t) (w : World) : Calls Tryd.prog 15 #[.int .i64 t.op, .int .i64 t.x, .int .i64 t.y, .int .i64 t.z] w fun e w' => ∃ tb : ByteArray, tb.size = 4 ∧ Hid (tb = ⟨(stB t).toArray⟩) ∧ e = .returned (.string tb) ∧ Mod (fun _ => False) w w' :=
  (step_any t ht w).mono fun _ _ h => ⟨_, rfl, rfl, h⟩
set_option maxHeartbeats 400000 in
theorem size_any (n : Int) (h1 : -99 ≤ n) (h2 : n ≤ 99) (w : World) : Calls Tryd.prog 7 #[.int .i64 n] w fun e w' => e = .returned (.int .i64 (n.natAbs : Int)) ∧ w = w' := by
  by_cases h : n < 0
  · have w1 : IntKind.i64.wrap (-n) = -n := by simp [IntKind.wrap, IntKind.signed, IntKind.bits]; omega
    have HN : Hid ((n.natAbs : Int) = -n) := show (n.natAbs : Int) = -n by omega
    go_enter Tryd.func7, Tryd.ntmps7
    go_wp2_with fail
    go_ret
    exact ⟨by rw [HN.out]; rfl, rfl⟩
  · have HN : Hid ((n.natAbs : Int) = n) := show (n.natAbs : Int) = n by omega
    go_enter Tryd.func7, Tryd.ntmps7
    go_wp2_with fail
    go_ret
    exact ⟨by rw [HN.out]; rfl, rfl⟩
/-- The bytes of steps. -/
def fb (l : List Stp) : ByteArray := ⟨(l.flatMap stB).toArray⟩
theorem fb_snoc (l : List Stp) (t : Stp) : fb l ++ ⟨(stB t).toArray⟩ = fb (l ++ [t]) := by
  unfold fb; rw [app_bytes]; simp
theorem fb_size (l : List Stp) : (fb l).size = 4 * l.length := by
  show ((l.flatMap stB).toArray).size = _
  simp only [List.size_toArray, flat_len]
set_option maxHeartbeats 3200000 in
set_option maxRecDepth 4000 in
theorem squares_any (k : Nat) (hk : k ≤ 10) (w : World) : Calls Tryd.prog 8 #[.int .i64 k] w fun e w' => e = .returned (S (joined 11 2 (sqL k))) ∧ Mod (fun _ => False) w w' := by
  go_enter Tryd.func8, Tryd.ntmps8
  go_wp2_with fail
  refine (step_any ⟨0, 0, 0, 0⟩ ⟨by decide, by decide, by decide, by decide⟩ w).mono ?_
  rintro e wa ⟨rfl, ka⟩
  go_wp2_with fail
  refine (step_any ⟨0, 1, 1, 0⟩ ⟨by decide, by decide, by decide, by decide⟩ wa).mono ?_
  rintro e wb ⟨rfl, kb⟩
  have hm0 := ka.trans kb
  have hA : (⟨(stB ⟨0, 0, 0, 0⟩).toArray⟩ : ByteArray) ++ ⟨(stB ⟨0, 1, 1, 0⟩).toArray⟩ = fb sqA := by rw [app_bytes]; rfl
  have HA : Hid _ := hA
  clear ka kb hA
  go_wp2_with fail
  rw [HA.out]
  go_loopw [3, 4] (fun sv iv wr => ∃ (j : Nat) (sk : ByteArray), j ≤ k ∧ iv = .int .i64 j ∧ sv = .string sk ∧ Hid (sk = fb (sqA ++ sqM j)) ∧ sk.size ≤ 8 + 8 * j ∧ Mod (fun _ => False) w wr) (fun _ iv _ => k - (intOf iv).toNat)
  case atStart => exact ⟨0, fb sqA, by omega, rfl, rfl, by simp [sqM, Hid], by rw [fb_size]; decide, hm0⟩
  case round =>
    clear hm0 HA
    obtain ⟨j, sk, hj, rfl, rfl, HS, hsz, hm⟩ := hrel
    by_cases hlt : j < k
    · go_wp2_with fail
      refine (step_var ⟨4, 0, 0, 0⟩ ⟨by decide, by decide, by decide, by decide⟩ wr).mono ?_
      rintro e wa ⟨ta, za, HA, rfl, ka⟩
      go_wp2_with fail
      refine (step_var ⟨4, 1, 1, 1⟩ ⟨by decide, by decide, by decide, by decide⟩ wa).mono ?_
      rintro e wb ⟨tb, zb, HB, rfl, kb⟩
      have hmE := hm.trans (ka.trans kb)
      have HN : Hid (sk ++ ta ++ tb = fb (sqA ++ sqM (j + 1))) := show _ = _ by
        rw [HS.out, HA.out, HB.out, fb_snoc, fb_snoc]; simp [sqM]
      have hs2 : (sk ++ ta ++ tb).size ≤ 8 + 8 * (j + 1) := by
        rw [HN.out, fb_size]; simp [sqA, sqM_len]; omega
      clear ka kb hm HS HA HB
      go_wp2_with fail
      go_roundw
      case rel => exact ⟨j + 1, _, by omega, by go_num, rfl, HN, hs2, hmE⟩
      case measure => simp [intOf]; omega
    · have hjk : j = k := by omega
      subst hjk
      go_wp2_with fail
      refine (step_var ⟨2, 2, 0, 1⟩ ⟨by decide, by decide, by decide, by decide⟩ wr).mono ?_
      rintro e w1 ⟨t1, zt1, HT, rfl, ka⟩
      replace hm := hm.trans ka
      obtain ⟨s1, hs1⟩ : ∃ x : ByteArray, x = sk ++ t1 := ⟨_, rfl⟩
      have H1 : Hid (s1 = fb (sqA ++ sqM j ++ [⟨2, 2, 0, 1⟩])) := show _ = _ by
        rw [hs1, HS.out, HT.out, fb_snoc]; try simp
      have hz1 : s1.size ≤ 60 + 8 * j := by rw [H1.out, fb_size]; simp [sqA, sqM_len]; omega
      have hr1 := hs1.symm
      clear ka HT HS hs1
      go_wp2_with fail
      clear hr1 hsz
      refine (step_var ⟨3, 3, 0, 1⟩ ⟨by decide, by decide, by decide, by decide⟩ w1).mono ?_
      rintro e w2 ⟨t2, zt2, HT, rfl, ka⟩
      replace hm := hm.trans ka
      obtain ⟨s2, hs2⟩ : ∃ x : ByteArray, x = s1 ++ t2 := ⟨_, rfl⟩
      have H2 : Hid (s2 = fb (sqA ++ sqM j ++ [⟨2, 2, 0, 1⟩, ⟨3, 3, 0, 1⟩])) := show _ = _ by
        rw [hs2, H1.out, HT.out, fb_snoc]; try simp
      have hz2 : s2.size ≤ 60 + 8 * j := by rw [H2.out, fb_size]; simp [sqA, sqM_len]; omega
      have hr2 := hs2.symm
      clear ka HT H1 hs2
      go_wp2_with fail
      clear hr2 hz1
      refine (step_var ⟨4, 4, 2, 3⟩ ⟨by decide, by decide, by decide, by decide⟩ w2).mono ?_
      rintro e w3 ⟨t3, zt3, HT, rfl, ka⟩
      replace hm := hm.trans ka
      obtain ⟨s3, hs3⟩ : ∃ x : ByteArray, x = s2 ++ t3 := ⟨_, rfl⟩
      have H3 : Hid (s3 = fb (sqA ++ sqM j ++ [⟨2, 2, 0, 1⟩, ⟨3, 3, 0, 1⟩, ⟨4, 4, 2, 3⟩])) := show _ = _ by
        rw [hs3, H2.out, HT.out, fb_snoc]; try simp
      have hz3 : s3.size ≤ 60 + 8 * j := by rw [H3.out, fb_size]; simp [sqA, sqM_len]; omega
      have hr3 := hs3.symm
      clear ka HT H2 hs3
      go_wp2_with fail
      clear hr3 hz2
      refine (step_var ⟨4, 5, 0, 0⟩ ⟨by decide, by decide, by decide, by decide⟩ w3).mono ?_
      rintro e w4 ⟨t4, zt4, HT, rfl, ka⟩
      replace hm := hm.trans ka
      obtain ⟨s4, hs4⟩ : ∃ x : ByteArray, x = s3 ++ t4 := ⟨_, rfl⟩
      have H4 : Hid (s4 = fb (sqA ++ sqM j ++ [⟨2, 2, 0, 1⟩, ⟨3, 3, 0, 1⟩, ⟨4, 4, 2, 3⟩, ⟨4, 5, 0, 0⟩])) := show _ = _ by
        rw [hs4, H3.out, HT.out, fb_snoc]; try simp
      have hz4 : s4.size ≤ 60 + 8 * j := by rw [H4.out, fb_size]; simp [sqA, sqM_len]; omega
      have hr4 := hs4.symm
      clear ka HT H3 hs4
      go_wp2_with fail
      clear hr4 hz3
      refine (step_var ⟨4, 6, 1, 1⟩ ⟨by decide, by decide, by decide, by decide⟩ w4).mono ?_
      rintro e w5 ⟨t5, zt5, HT, rfl, ka⟩
      replace hm := hm.trans ka
      obtain ⟨s5, hs5⟩ : ∃ x : ByteArray, x = s4 ++ t5 := ⟨_, rfl⟩
      have H5 : Hid (s5 = fb (sqA ++ sqM j ++ [⟨2, 2, 0, 1⟩, ⟨3, 3, 0, 1⟩, ⟨4, 4, 2, 3⟩, ⟨4, 5, 0, 0⟩, ⟨4, 6, 1, 1⟩])) := show _ = _ by
        rw [hs5, H4.out, HT.out, fb_snoc]; try simp
      have hz5 : s5.size ≤ 60 + 8 * j := by rw [H5.out, fb_size]; simp [sqA, sqM_len]; omega
      have hr5 := hs5.symm
      clear ka HT H4 hs5
      go_wp2_with fail
      clear hr5 hz4
      refine (step_var ⟨3, 7, 5, 6⟩ ⟨by decide, by decide, by decide, by decide⟩ w5).mono ?_
      rintro e w6 ⟨t6, zt6, HT, rfl, ka⟩
      replace hm := hm.trans ka
      obtain ⟨s6, hs6⟩ : ∃ x : ByteArray, x = s5 ++ t6 := ⟨_, rfl⟩
      have H6 : Hid (s6 = fb (sqA ++ sqM j ++ [⟨2, 2, 0, 1⟩, ⟨3, 3, 0, 1⟩, ⟨4, 4, 2, 3⟩, ⟨4, 5, 0, 0⟩, ⟨4, 6, 1, 1⟩, ⟨3, 7, 5, 6⟩])) := show _ = _ by
        rw [hs6, H5.out, HT.out, fb_snoc]; try simp
      have hz6 : s6.size ≤ 60 + 8 * j := by rw [H6.out, fb_size]; simp [sqA, sqM_len]; omega
      have hr6 := hs6.symm
      clear ka HT H5 hs6
      go_wp2_with fail
      clear hr6 hz5
      refine (step_var ⟨3, 8, 4, 7⟩ ⟨by decide, by decide, by decide, by decide⟩ w6).mono ?_
      rintro e w7 ⟨t7, zt7, HT, rfl, ka⟩
      replace hm := hm.trans ka
      obtain ⟨s7, hs7⟩ : ∃ x : ByteArray, x = s6 ++ t7 := ⟨_, rfl⟩
      have H7 : Hid (s7 = fb (sqA ++ sqM j ++ [⟨2, 2, 0, 1⟩, ⟨3, 3, 0, 1⟩, ⟨4, 4, 2, 3⟩, ⟨4, 5, 0, 0⟩, ⟨4, 6, 1, 1⟩, ⟨3, 7, 5, 6⟩, ⟨3, 8, 4, 7⟩])) := show _ = _ by
        rw [hs7, H6.out, HT.out, fb_snoc]; try simp
      have hz7 : s7.size ≤ 60 + 8 * j := by rw [H7.out, fb_size]; simp [sqA, sqM_len]; omega
      have hr7 := hs7.symm
      clear ka HT H6 hs7
      go_wp2_with fail
      clear hr7 hz6
      refine (step_var ⟨1, 9, 1, 0⟩ ⟨by decide, by decide, by decide, by decide⟩ w7).mono ?_
      rintro e w8 ⟨t8, zt8, HT, rfl, ka⟩
      replace hm := hm.trans ka
      obtain ⟨s8, hs8⟩ : ∃ x : ByteArray, x = s7 ++ t8 := ⟨_, rfl⟩
      have H8 : Hid (s8 = fb (sqA ++ sqM j ++ [⟨2, 2, 0, 1⟩, ⟨3, 3, 0, 1⟩, ⟨4, 4, 2, 3⟩, ⟨4, 5, 0, 0⟩, ⟨4, 6, 1, 1⟩, ⟨3, 7, 5, 6⟩, ⟨3, 8, 4, 7⟩, ⟨1, 9, 1, 0⟩])) := show _ = _ by
        rw [hs8, H7.out, HT.out, fb_snoc]; try simp
      have hz8 : s8.size ≤ 60 + 8 * j := by rw [H8.out, fb_size]; simp [sqA, sqM_len]; omega
      have hr8 := hs8.symm
      clear ka HT H7 hs8
      go_wp2_with fail
      clear hr8 hz7
      refine (step_var ⟨2, 10, 8, 9⟩ ⟨by decide, by decide, by decide, by decide⟩ w8).mono ?_
      rintro e w9 ⟨t9, zt9, HT, rfl, ka⟩
      replace hm := hm.trans ka
      obtain ⟨s9, hs9⟩ : ∃ x : ByteArray, x = s8 ++ t9 := ⟨_, rfl⟩
      have H9 : Hid (s9 = fb (sqA ++ sqM j ++ [⟨2, 2, 0, 1⟩, ⟨3, 3, 0, 1⟩, ⟨4, 4, 2, 3⟩, ⟨4, 5, 0, 0⟩, ⟨4, 6, 1, 1⟩, ⟨3, 7, 5, 6⟩, ⟨3, 8, 4, 7⟩, ⟨1, 9, 1, 0⟩, ⟨2, 10, 8, 9⟩])) := show _ = _ by
        rw [hs9, H8.out, HT.out, fb_snoc]; try simp
      have hz9 : s9.size ≤ 60 + 8 * j := by rw [H9.out, fb_size]; simp [sqA, sqM_len]; omega
      have hr9 := hs9.symm
      clear ka HT H8 hs9
      go_wp2_with fail
      clear hr9 hz8
      refine (step_var ⟨6, 10, 0, 0⟩ ⟨by decide, by decide, by decide, by decide⟩ w9).mono ?_
      rintro e w10 ⟨t10, zt10, HT, rfl, ka⟩
      replace hm := hm.trans ka
      obtain ⟨s10, hs10⟩ : ∃ x : ByteArray, x = s9 ++ t10 := ⟨_, rfl⟩
      have H10 : Hid (s10 = fb (sqA ++ sqM j ++ [⟨2, 2, 0, 1⟩, ⟨3, 3, 0, 1⟩, ⟨4, 4, 2, 3⟩, ⟨4, 5, 0, 0⟩, ⟨4, 6, 1, 1⟩, ⟨3, 7, 5, 6⟩, ⟨3, 8, 4, 7⟩, ⟨1, 9, 1, 0⟩, ⟨2, 10, 8, 9⟩, ⟨6, 10, 0, 0⟩])) := show _ = _ by
        rw [hs10, H9.out, HT.out, fb_snoc]; try simp
      have hz10 : s10.size ≤ 60 + 8 * j := by rw [H10.out, fb_size]; simp [sqA, sqM_len]; omega
      have hr10 := hs10.symm
      clear ka HT H9 hs10
      go_wp2_with fail
      clear hr10 hz9
      refine (step_var ⟨6, 3, 0, 0⟩ ⟨by decide, by decide, by decide, by decide⟩ w10).mono ?_
      rintro e w11 ⟨t11, zt11, HT, rfl, ka⟩
      replace hm := hm.trans ka
      obtain ⟨s11, hs11⟩ : ∃ x : ByteArray, x = s10 ++ t11 := ⟨_, rfl⟩
      have H11 : Hid (s11 = fb (sqA ++ sqM j ++ [⟨2, 2, 0, 1⟩, ⟨3, 3, 0, 1⟩, ⟨4, 4, 2, 3⟩, ⟨4, 5, 0, 0⟩, ⟨4, 6, 1, 1⟩, ⟨3, 7, 5, 6⟩, ⟨3, 8, 4, 7⟩, ⟨1, 9, 1, 0⟩, ⟨2, 10, 8, 9⟩, ⟨6, 10, 0, 0⟩, ⟨6, 3, 0, 0⟩])) := show _ = _ by
        rw [hs11, H10.out, HT.out, fb_snoc]; try simp
      have hz11 : s11.size ≤ 60 + 8 * j := by rw [H11.out, fb_size]; simp [sqA, sqM_len]; omega
      have hr11 := hs11.symm
      clear ka HT H10 hs11
      go_wp2_with fail
      clear hr11 hz10
      refine (step_var ⟨7, 8, 0, 15⟩ ⟨by decide, by decide, by decide, by decide⟩ w11).mono ?_
      rintro e w12 ⟨t12, zt12, HT, rfl, ka⟩
      replace hm := hm.trans ka
      obtain ⟨s12, hs12⟩ : ∃ x : ByteArray, x = s11 ++ t12 := ⟨_, rfl⟩
      have H12 : Hid (s12 = fb (sqA ++ sqM j ++ [⟨2, 2, 0, 1⟩, ⟨3, 3, 0, 1⟩, ⟨4, 4, 2, 3⟩, ⟨4, 5, 0, 0⟩, ⟨4, 6, 1, 1⟩, ⟨3, 7, 5, 6⟩, ⟨3, 8, 4, 7⟩, ⟨1, 9, 1, 0⟩, ⟨2, 10, 8, 9⟩, ⟨6, 10, 0, 0⟩, ⟨6, 3, 0, 0⟩, ⟨7, 8, 0, 15⟩])) := show _ = _ by
        rw [hs12, H11.out, HT.out, fb_snoc]; try simp
      have hz12 : s12.size ≤ 60 + 8 * j := by rw [H12.out, fb_size]; simp [sqA, sqM_len]; omega
      have hr12 := hs12.symm
      clear ka HT H11 hs12
      have hsz : s12.size = 4 * (14 + 2 * j) := by rw [H12.out, fb_size]; simp [sqA, sqM_len]; omega
      obtain ⟨n, hn⟩ : ∃ n : Nat, n = 14 + 2 * j := ⟨_, rfl⟩
      have q1 : ((s12.size : Int)).tdiv 4 = (n : Int) := by rw [hsz, hn, Int.tdiv_eq_ediv_of_nonneg (by omega)]; omega
      have q2 : IntKind.i64.wrap (n : Int) = (n : Int) := by simp [IntKind.wrap, IntKind.signed, IntKind.bits]; omega
      have q3 : ((n : Int)).tmod 256 = (n : Int) := by rw [Int.tmod_eq_emod_of_nonneg (by omega)]; omega
      have q4 : ((n : Int)).tdiv 256 = 0 := by rw [Int.tdiv_eq_ediv_of_nonneg (by omega)]; omega
      have q5 := wr8 (n := n) (by omega)
      have q6 : n < 256 := by omega
      have hO := owns_built (heap_alloc_new w12 (.cells #[.int .u8 11, .int .u8 2, .int .u8 n, .int .u8 0] 5)) (by simp)
      have hO2 : (w12.alloc (.cells #[.int .u8 11, .int .u8 2, .int .u8 n, .int .u8 0] 5)).ownsRow w12.heap.size 5 1 (.slice (some ⟨w12.heap.size, 0, none⟩) 4 4) 4 (bvs [11, 2, UInt8.ofNat n, 0]) := by
        have e : bvs [11, 2, UInt8.ofNat n, 0] = [.int .u8 11, .int .u8 2, .int .u8 n, .int .u8 0] := by simp [bvs]; omega
        rw [e]; exact hO
      have hcv := convert_owned (P := Tryd.prog) hO2 rfl Tryd.underlying38 Tryd.underlying5 Tryd.underlying9
      have hmE := hm.alloc (.cells #[.int .u8 11, .int .u8 2, .int .u8 n, .int .u8 0] 5)
      have HE : Hid ((⟨#[82, 85]⟩ : ByteArray) ++ ⟨[11, 2, UInt8.ofNat n, 0].toArray⟩ ++ s12 = ⟨(joined 11 2 (sqL j)).toArray⟩) := show _ = _ by
        have e1 : (sqL j).length % 256 = n := by rw [sqL_len, ← hn]; omega
        have e2 : (sqL j).length / 256 = 0 := by rw [sqL_len, ← hn]; omega
        rw [H12.out, fb, show (⟨#[82, 85]⟩ : ByteArray) = ⟨[82, 85].toArray⟩ from rfl, app_bytes, app_bytes, joined, e1, e2]
        simp [sqL, sqA, List.append_assoc]
        rfl
      have HM : Hid _ := hmE
      clear hO hO2 hmE hm H12 hn hsz
      go_wp2_with fail
      go_ret
      exact ⟨congrArg (fun b => Ending.returned (.string b)) HE.out, HM.out⟩
end Go.Proofs.YtmnfndpbblpjiaaDoor

/- rulerkeep's Squares, whole. -/
namespace Go.Proofs.YtmnfndpbblpjiaaDoor
open Go.RowKit Pu

theorem sq_exe {B nn : Nat} (hB : B = 10 ^ nn) (hn : nn = 8000) (k : Nat) (hk : k ≤ 10) (x y : Int) (hx : -99 ≤ x ∧ x ≤ 99) (hy : -99 ≤ y ∧ y ≤ 99) : exe B ⟨(joined 11 2 (sqL k)).toArray⟩ (jnL [x, y]) = (sqT k x y, 0) := by
  have hr : ∀ z ∈ [x, y], -99 ≤ z ∧ z ≤ 99 := fun z hz => by simp at hz; rcases hz with rfl | rfl <;> assumption
  rw [exe_stt (sq_vfy k hk), join_i (by omega), join_steps (sqL_small k)]
  refine Eq.trans (stt_play (jn_inps hr) rfl) ?_
  exact sq_play hB hn k hk x y (by omega) (by omega)
/-- Which is the greater. -/
def grt (k : Nat) (x y : Int) : Bool := if k = 0 then decide (y < x) else decide (y.natAbs < x.natAbs)
theorem sq_want (k : Nat) (x y : Int) : (⟨#[49]⟩ : ByteArray) ++ bitB (grt k x y) ++ ⟨#[115, 49, 53]⟩ = sqT k x y := by
  have key : (if itS k y < itS k x then (49 : UInt8) else 48) = if grt k x y then 49 else 48 := by
    unfold grt
    cases k with
    | zero => by_cases h : y < x <;> simp [itS, h]
    | succ k => simp [itS_gt]
  unfold sqT
  rw [key]
  cases grt k x y <;> rfl
set_option maxHeartbeats 1600000 in
set_option maxRecDepth 4000 in
theorem squares_walk (a b n : Int) (w : World) (ha : isI a) (hb : isI b) (hn : isI n) (hT : Tab w) : Calls Tryd.prog 3 #[.int .i64 a, .int .i64 b, .int .i64 n] w fun e w' => e = .returned (.bool true) ∧ Mod (fun _ => False) w w' := by
  have pa := fun w => kplace_any a w ha
  have pb := fun w => kplace_any b w hb
  have pn := fun w => kpick_any n 11 w hn (by omega) (by omega)
  have hx := plc_range a
  have hy := plc_range b
  have hk := pk_range n 11 (by omega)
  generalize plc a = x at *
  generalize plc b = y at *
  obtain ⟨k, hkk⟩ : ∃ k : Nat, pk n 11 = (k : Int) := ⟨(pk n 11).toNat, by omega⟩
  rw [hkk] at pn hk
  have hk10 : k ≤ 10 := by omega
  have HT : Hid (Tab w) := hT
  clear hT ha hb hn hkk
  obtain ⟨nn, hnn⟩ : ∃ nn : Nat, nn = 8000 := ⟨8000, rfl⟩
  obtain ⟨B, hB⟩ : ∃ B : Nat, B = 10 ^ nn := ⟨_, rfl⟩
  have hcs : (⟨(joined 11 2 (sqL k)).toArray⟩ : ByteArray).size ≤ 8006 := by rw [join_size, sqL_len]; omega
  have hjs : (jnL [x, y]).size ≤ 140 := jn_size _ (by simp)
  have hsq := fun w => squares_any k hk10 w
  have hve := fun w => verify_any ⟨(joined 11 2 (sqL k)).toArray⟩ w hcs
  rw [sq_vfy k hk10] at hve
  have hex := fun w => exec_any B nn hB hnn ⟨(joined 11 2 (sqL k)).toArray⟩ (jnL [x, y]) w hcs hjs
  rw [sq_exe hB hnn k hk10 x y hx hy, ← sq_want] at hex
  have hsx := fun w => size_any x hx.1 hx.2 w
  have hsy := fun w => size_any y hy.1 hy.2 w
  have hjn : ∀ w1 : World, Mod (fun _ => False) w w1 → Calls Tryd.prog 11 #[.slice (some ⟨w1.heap.size, 0, none⟩) 2 2] (w1.alloc (.cells #[.int .i64 x, .int .i64 y] 3)) fun e w' => e = .returned (.string (jnL [x, y])) ∧ Mod (fun _ => False) (w1.alloc (.cells #[.int .i64 x, .int .i64 y] 3)) w' := fun w1 hm => by
    have hI : (w1.alloc (.cells #[.int .i64 x, .int .i64 y] 3)).ownsRow w1.heap.size 3 1 (.slice (some ⟨w1.heap.size, 0, none⟩) 2 2) 2 (zvs [x, y]) := by
      have h := owns_built (heap_alloc_new w1 (.cells #[.int .i64 x, .int .i64 y] 3)) (by simp)
      simpa [zvs] using h
    exact joined_any _ [x, y] _ _ (by simp) hI (fun z hz => by simp at hz; rcases hz with rfl | rfl <;> assumption) (HT.out.mod (hm.alloc _))
  have HJ : Hid _ := hjn
  generalize jnL [x, y] = jj at *
  generalize (joined 11 2 (sqL k)) = cc at *
  clear hB hnn hcs hjs HT hjn
  by_cases h0 : k = 0
  · have q0 : ¬ (0 : Int) < (k : Int) := by omega
    have HG3 : grt k x y = decide (y < x) := by unfold grt; rw [if_pos h0]
    rw [HG3] at hex
    clear HG3 h0
    go_enter Tryd.func3, Tryd.ntmps3
    go_wp2_with fail
    refine (pa _).mono ?_
    rintro e w1 ⟨rfl, rfl⟩
    go_wp2_with fail
    refine (pb _).mono ?_
    rintro e w1 ⟨rfl, rfl⟩
    go_wp2_with fail
    refine (pn _).mono ?_
    rintro e w1 ⟨rfl, rfl⟩
    go_wp2_with fail
    refine (hsq _).mono ?_
    rintro e w1 ⟨rfl, k1⟩
    go_wp2_with fail
    refine (hve _).mono ?_
    rintro e w2 ⟨rfl, k2⟩
    have k3 := k1.trans k2
    go_wp2_with fail
    refine (HJ.out _ k3).mono ?_
    rintro e w3 ⟨rfl, k4⟩
    have hm := (k3.alloc _).trans k4
    clear k1 k2 k3 k4
    go_wp2_with fail
    refine (hex _).mono ?_
    rintro e w4 ⟨rfl, k5⟩
    replace hm := hm.trans k5
    clear k5 hex hve hsq
    go_wp2_with fail
    refine (bit_any (decide (y < x)) _).mono ?_
    rintro e w5 ⟨rfl, rfl⟩
    have hz : (bitB (decide (y < x))).size = 1 := by unfold bitB; split <;> rfl
    go_wp2_with fail
    go_ret
    exact ⟨rfl, hm⟩
  · have q0 : (0 : Int) < (k : Int) := by omega
    have HG3 : grt k x y = decide ((y.natAbs : Int) < (x.natAbs : Int)) := by unfold grt; rw [if_neg h0]; simp
    rw [HG3] at hex
    clear HG3 h0
    generalize (y.natAbs : Int) = ya at *
    generalize (x.natAbs : Int) = xa at *
    go_enter Tryd.func3, Tryd.ntmps3
    go_wp2_with fail
    refine (pa _).mono ?_
    rintro e w1 ⟨rfl, rfl⟩
    go_wp2_with fail
    refine (pb _).mono ?_
    rintro e w1 ⟨rfl, rfl⟩
    go_wp2_with fail
    refine (pn _).mono ?_
    rintro e w1 ⟨rfl, rfl⟩
    go_wp2_with fail
    refine (hsx _).mono ?_
    rintro e w1 ⟨rfl, rfl⟩
    go_wp2_with fail
    refine (hsy _).mono ?_
    rintro e w1 ⟨rfl, rfl⟩
    go_wp2_with fail
    refine (hsq _).mono ?_
    rintro e w1 ⟨rfl, k1⟩
    go_wp2_with fail
    refine (hve _).mono ?_
    rintro e w2 ⟨rfl, k2⟩
    have k3 := k1.trans k2
    go_wp2_with fail
    refine (HJ.out _ k3).mono ?_
    rintro e w3 ⟨rfl, k4⟩
    have hm := (k3.alloc _).trans k4
    clear k1 k2 k3 k4
    go_wp2_with fail
    refine (hex _).mono ?_
    rintro e w4 ⟨rfl, k5⟩
    replace hm := hm.trans k5
    clear k5 hex hve hsq
    go_wp2_with fail
    refine (bit_any (decide (ya < xa)) _).mono ?_
    rintro e w5 ⟨rfl, rfl⟩
    have hz : (bitB (decide (ya < xa))).size = 1 := by unfold bitB; split <;> rfl
    go_wp2_with fail
    go_ret
    exact ⟨rfl, hm⟩
end Go.Proofs.YtmnfndpbblpjiaaDoor

namespace Go.Proofs.YtmnfndpbblpjiaaDoor
open Go.ChangeShapes Go.WideShapes Go.ChangeAt Go.RowKit Go.Deep Go.Joins

theorem squares_laid (os : Os) : laidMet Tryd.prog Rows.squaresRow.laid ((laidOn (World.holding Tryd.prog os ⟨#[], #[], []⟩)).forCall (fun _ _ => 0) ⟨#[], #[.int .i64 0, .int .i64 0, .int .i64 0], []⟩).memory :=
  laidMet_of_run' 8 (by kernel_rfl) (by kernel_rfl)
/-- No parameter wants a stand-in; the program's own looks are off. -/
theorem squares_plain {name : String} {k : FuncId} {fk : Func} (hk : Tryd.prog.funcNamed name = some k) (hfk : Tryd.prog.funcs[k]? = some fk) (hp : fk.params = #[3, 3, 3]) (f : FuncId) (fn : Func) (hf : Tryd.pinned.checked.prog.funcNamed name = some f) (hfn : Tryd.pinned.checked.prog.funcs[f]? = some fn) :
    false = Tryd.pinned.checked.prog.looks [] ∧ ∀ (j : Nat) t, fn.params[j]? = some t → Tryd.pinned.checked.prog.wantsStandIn t = false := by
  obtain rfl : f = k := Option.some.inj (hk.symm.trans hf) |>.symm
  obtain rfl : fn = fk := (Option.some.inj (hfk.symm.trans hfn)).symm
  refine ⟨by kernel_rfl, fun j t ht => ?_⟩
  rw [hp] at ht
  obtain rfl : t = 3 := by simpa using Array.mem_of_getElem? ht
  exact (show Tryd.prog.wantsStandIn 3 = false by kernel_rfl)
set_option maxRecDepth 100000 in
theorem squares_reads (os : Os) {H : Type} (enc : TypeId × Value → H) : ∃ places, DataW.whole enc Tryd.prog ((laidOn (World.holding Tryd.prog os ⟨#[], #[], []⟩)).forCall (fun _ _ => 0) ⟨#[], #[.int .i64 0, .int .i64 0, .int .i64 0], []⟩).memory Tryd.f3.params.toList Rows.squaresSpec.vars false #[.int .i64 0, .int .i64 0, .int .i64 0].toList 8 = some ([.lit (.int .i64 0), .lit (.int .i64 0), .lit (.int .i64 0)], [], places) :=
  ⟨[], by kernel_rfl⟩

set_option maxRecDepth 100000 in
theorem squares_lifted (os : Os) (started : os.Started) (H : Type) (enc : TypeId × Value → H) (F : Stop.Interp) :
    ReturnsInHanded {} Tryd.checked os 3 .any ((OpenSpec.ofChange Rows.squaresSpec).preRow enc Tryd.prog Tryd.f3 Rows.squaresRow.domain false Rows.squaresRow.laid) (((OpenSpec.ofChange Rows.squaresSpec).at F).post enc Tryd.prog Tryd.f3 false true false false) := by
  obtain ⟨places, hx⟩ := squares_reads os enc
  refine returnsInHanded_of_row (C := Tryd.checked) (s := OpenSpec.ofChange Rows.squaresSpec) Tryd.own started (by kernel_rfl) Tryd.func3
    (witness_row_at (enc := enc) (C := Tryd.checked) false (laidOn (World.holding Tryd.prog os ⟨#[], #[], []⟩)) #[.int .i64 0, .int .i64 0, .int .i64 0] rfl (by kernel_rfl) (by kernel_rfl) (by kernel_rfl)
      (OpenSpec.preRow_of_cond 8 hx (by kernel_rfl) (fun k hk => by cases hk) (by kernel_rfl) (squares_laid os))) ?_
  intro W base args ds gs before hval0 hW _ _ _ hLH _ _
  have hTab : Tab W := tab_of hLH
  have hval : ∀ (j : Nat) t v, Tryd.f3.params[j]? = some t → args[j]? = some v → Value.okWide Tryd.prog W .any base t v := hval0
  have hW' := hW
  obtain ⟨p, q, hA0, hV, rfl, _, _⟩ := hW
  have hA : DataW.TrodAll enc Tryd.prog W 0 (fun _ => true) true Tryd.f3.params.toList args.toList ds p := hA0
  rw [Tryd.params3] at hA hval
  obtain ⟨v0, v1, v2, d0, d1, d2, p0, p1, p2, rfl, rfl, rfl, h0, h1, h2⟩ := trodAll_three hA
  obtain ⟨rfl, rfl⟩ := trodVars_none hV
  clear hA0 hval0
  simp only [List.append_nil] at hW'
  have hlt : ∀ x ∈ p0 ++ (p1 ++ p2), x.block < W.heap.size := fun x hx => by simpa using hW'.lt x (by simpa using hx)
  have h0k := h0
  obtain ⟨n0, rfl, -, -, z0⟩ := open_int Tryd.underlying3 (hval 0 3 v0 rfl rfl) h0
  have h1k := h1
  obtain ⟨n1, rfl, -, -, z1⟩ := open_int Tryd.underlying3 (hval 1 3 v1 rfl rfl) h1
  have h2k := h2
  obtain ⟨n2, rfl, -, -, z2⟩ := open_int Tryd.underlying3 (hval 2 3 v2 rfl rfl) h2
  refine (squares_walk n0 n1 n2 W (isI_of z0) (isI_of z1) (isI_of z2) hTab).mono fun e W' ⟨he, hm⟩ => ?_
  subst he
  exact ⟨_, rfl, ⟨_, _, _, [], _, [], hW', trodAll_mk1 (shut_bool Tryd.underlying4 true), trodAll_mk3 (Below.trod Tryd.laidOut (by kernel_rfl) (of_decide_eq_true (by kernel_rfl)) h0k hm.below (fun x hx => hlt x (by simp [hx]))) (Below.trod Tryd.laidOut (by kernel_rfl) (of_decide_eq_true (by kernel_rfl)) h1k hm.below (fun x hx => hlt x (by simp [hx]))) (Below.trod Tryd.laidOut (by kernel_rfl) (of_decide_eq_true (by kernel_rfl)) h2k hm.below (fun x hx => hlt x (by simp [hx]))), rfl, hm.below.frame _, fun h => by cases h⟩⟩

theorem squares_said : Rows.SquaresSaid :=
  OpenClaim.holds_of_cond 3 Tryd.f3 rfl rfl rfl rfl rfl rfl rfl ⟨rfl, rfl, rfl, rfl, rfl⟩ rfl rfl rfl rfl rfl (by kernel_rfl) Tryd.func3 (by kernel_rfl)
    (of_decide_eq_true (by kernel_rfl)) (by unfold Func.isWrapper; first | (rw [if_pos (by decide +kernel)]; kernel_rfl) | (rw [if_neg (by decide +kernel)]; exact ⟨rfl, rfl⟩))
    (fun os started H enc _ F => by rw [OpenClaim.pre_eq_preRow]; exact squares_lifted os started H enc F)

theorem squares_holds : Rows.SquaresCardSaid :=
  Claim7.holds_tied_plain_at .later [] _ _ _ _ squares_said (fun _ h => by cases h) (by kernel_rfl) (fun _ h => by cases h) squares_row_tie rfl ⟨rfl, rfl⟩ (by kernel_rfl) rfl (squares_plain (by kernel_rfl) Tryd.func3 Tryd.params3) (by kernel_rfl)
end Go.Proofs.YtmnfndpbblpjiaaDoor
