/- The plain functions by which the two sides are held together: the document's scanner and its gathering of statements, byte by byte; names, sorts, weights, faults. No program is named here. -/
import Derived.WalkKit
namespace Go.Proofs.YtmnfndpbblpjiaaGreatDoor.Pu

/-- The byte at a place, nought behind the end. -/
def bt (s : ByteArray) (i : Nat) : UInt8 := if h : i < s.size then s[i] else 0
def g (s : ByteArray) (i : Nat) : Nat := (bt s i).toNat
def isL (c : Nat) : Bool := decide (97 ≤ c) && decide (c ≤ 122)

theorem bt_in {s : ByteArray} {i : Nat} (h : i < s.size) : bt s i = s[i] := by simp [bt, h]
theorem g_in {s : ByteArray} {i : Nat} (h : i < s.size) : g s i = s[i].toNat := by simp [g, bt, h]
theorem g_out {s : ByteArray} {i : Nat} (h : s.size ≤ i) : g s i = 0 := by simp [g, bt, show ¬ i < s.size by omega]
theorem g_lt (s : ByteArray) (i : Nat) : g s i < 256 := (bt s i).toNat_lt
theorem lt_of_g {s : ByteArray} {i : Nat} (h : g s i ≠ 0) : i < s.size := by
  by_cases hl : i < s.size
  · exact hl
  · exact absurd (g_out (by omega)) h

/-- The scanner: its state, whole statements, letters, arguments. -/
structure Sc where
  st : Nat
  n : Nat
  le : Nat
  ar : Nat

def nx (x : Sc) (c : Nat) : Option Sc :=
  if x.st = 0 then
    if x.n = 16 then none else if c = 63 then some ⟨2, x.n, x.le, x.ar⟩ else if isL c then some ⟨1, x.n, x.le, x.ar⟩ else none
  else if x.st = 1 then (if c = 61 then some ⟨2, x.n, x.le, x.ar⟩ else none)
  else if x.st = 2 then (if isL c then some ⟨3, x.n, 1, x.ar⟩ else none)
  else if x.st = 3 then (if isL c && decide (x.le < 6) then some ⟨3, x.n, x.le + 1, x.ar⟩ else if c = 40 then some ⟨4, x.n, x.le, 0⟩ else none)
  else if x.st = 4 then (if isL c then some ⟨5, x.n, x.le, x.ar + 1⟩ else if c = 41 then some ⟨7, x.n, x.le, x.ar⟩ else none)
  else if x.st = 5 then (if c = 41 then some ⟨7, x.n, x.le, x.ar⟩ else if c = 44 ∧ x.ar < 4 then some ⟨6, x.n, x.le, x.ar⟩ else none)
  else if x.st = 6 then (if isL c then some ⟨5, x.n, x.le, x.ar + 1⟩ else none)
  else if x.st = 7 then (if c = 59 then some ⟨0, x.n + 1, x.le, x.ar⟩ else none)
  else none

def stA (s : ByteArray) : Nat → Option Sc
  | 0 => some ⟨0, 0, 0, 0⟩
  | i + 1 => (stA s i).bind fun x => nx x (g s i)

theorem stA_succ {s : ByteArray} {i : Nat} {x y : Sc} (h : stA s i = some x) (hn : nx x (g s i) = some y) : stA s (i + 1) = some y := by simp [stA, h, hn]

theorem stA_back {s : ByteArray} : ∀ {i : Nat} {y : Sc}, stA s (i + 1) = some y → ∃ x, stA s i = some x ∧ nx x (g s i) = some y := by
  intro i y h
  simp only [stA] at h
  cases hx : stA s i with
  | none => simp [hx] at h
  | some x => exact ⟨x, rfl, by simpa [hx] using h⟩

theorem stA_le {s : ByteArray} : ∀ {d i : Nat} {y : Sc}, stA s (i + d) = some y → ∃ x, stA s i = some x := by
  intro d
  induction d with
  | zero => intro i y h; exact ⟨y, h⟩
  | succ d ih => intro i y h; obtain ⟨x, hx, _⟩ := stA_back (i := i + d) h; exact ih hx

/-- The scanner stands at k and can go no further. -/
def Stuck (s : ByteArray) (k : Nat) : Prop := ∃ x, stA s k = some x ∧ ((k < s.size ∧ nx x (g s k) = none) ∨ (k = s.size ∧ x.st ≠ 0))
/-- The text is a source. -/
def Whole (s : ByteArray) : Prop := ∃ x, stA s s.size = some x ∧ x.st = 0

theorem Stuck.le {s : ByteArray} {k : Nat} (h : Stuck s k) : k ≤ s.size := by
  obtain ⟨x, _, h | h⟩ := h <;> omega

theorem Stuck.not_lt {s : ByteArray} {p q : Nat} (h : Stuck s p) {y : Sc} (hq : stA s q = some y) (hs : q ≤ s.size) : q ≤ p := by
  obtain ⟨x, hx, ⟨hlt, hn⟩ | ⟨he, _⟩⟩ := h
  · by_cases hle : q ≤ p
    · exact hle
    · obtain ⟨d, rfl⟩ : ∃ d, q = p + 1 + d := ⟨q - (p + 1), by omega⟩
      obtain ⟨z, hz⟩ := stA_le hq
      simp [stA, hx, hn] at hz
  · omega

theorem Stuck.unique {s : ByteArray} {p q : Nat} (h : Stuck s p) (k : Stuck s q) : p = q := by
  have h1 := h; have k1 := k
  obtain ⟨x, hx, _⟩ := h
  obtain ⟨y, hy, _⟩ := k
  have a := h1.not_lt hy k1.le
  have b := k1.not_lt hx h1.le
  omega

theorem Stuck.not_whole {s : ByteArray} {p : Nat} (h : Stuck s p) (k : Whole s) : False := by
  obtain ⟨y, hy, h0⟩ := k
  have a := h.not_lt hy (Nat.le_refl _)
  have hp : p = s.size := by have := h.le; omega
  subst hp
  obtain ⟨x, hx, ⟨hlt, _⟩ | ⟨_, hn⟩⟩ := h
  · omega
  · rw [hy] at hx; cases hx; exact hn h0

/-- A statement. -/
structure St where
  name : Nat
  word : List UInt8
  args : List UInt8

/-- The gathering of statements. -/
structure Ga where
  l : List St
  x : St
  ins : Bool

def gaStep (s : ByteArray) (i : Nat) (a : Ga) : Ga :=
  if g s i = 61 then ⟨a.l, ⟨g s (i - 1), [], a.x.args⟩, a.ins⟩
  else if g s i = 63 then ⟨a.l, ⟨a.x.name, [], a.x.args⟩, a.ins⟩
  else if g s i = 40 then ⟨a.l, a.x, true⟩
  else if g s i = 41 then ⟨a.l, a.x, false⟩
  else if g s i = 59 then ⟨a.l ++ [a.x], ⟨0, [], []⟩, a.ins⟩
  else if isL (g s i) then
    if a.ins then ⟨a.l, ⟨a.x.name, a.x.word, a.x.args ++ [bt s i]⟩, a.ins⟩ else ⟨a.l, ⟨a.x.name, a.x.word ++ [bt s i], a.x.args⟩, a.ins⟩
  else a

def gaA (s : ByteArray) : Nat → Ga
  | 0 => ⟨[], ⟨0, [], []⟩, false⟩
  | i + 1 => gaStep s i (gaA s i)

/-- Both stand so at k. -/
def At (s : ByteArray) (k st n le ar : Nat) (l : List St) (x : St) (ins : Bool) : Prop := stA s k = some ⟨st, n, le, ar⟩ ∧ gaA s k = ⟨l, x, ins⟩

theorem isL_iff (c : Nat) : isL c = true ↔ 97 ≤ c ∧ c ≤ 122 := by simp [isL]

section steps
variable {s : ByteArray} {k n le ar : Nat} {l : List St} {x : St} {ins : Bool}
theorem at_start (s : ByteArray) : At s 0 0 0 0 0 [] ⟨0, [], []⟩ false := ⟨rfl, rfl⟩
theorem at_ask (h : At s k 0 n le ar l x ins) (hn : n ≠ 16) (hc : g s k = 63) : At s (k + 1) 2 n le ar l ⟨x.name, [], x.args⟩ ins :=
  ⟨stA_succ h.1 (by simp [nx, hn, hc]), by simp [gaA, h.2, gaStep, hc]⟩
theorem at_name (h : At s k 0 n le ar l x false) (hn : n ≠ 16) (hc : isL (g s k) = true) : At s (k + 1) 1 n le ar l ⟨x.name, x.word ++ [bt s k], x.args⟩ false := by
  have hl := (isL_iff _).1 hc
  exact ⟨stA_succ h.1 (by simp [nx, hn, hc, show g s k ≠ 63 by omega]), by
    simp [gaA, h.2, gaStep, hc, show g s k ≠ 61 by omega, show g s k ≠ 63 by omega, show g s k ≠ 40 by omega, show g s k ≠ 41 by omega, show g s k ≠ 59 by omega]⟩
theorem at_equal (h : At s k 1 n le ar l x ins) (hc : g s k = 61) : At s (k + 1) 2 n le ar l ⟨g s (k - 1), [], x.args⟩ ins :=
  ⟨stA_succ h.1 (by simp [nx, hc]), by simp [gaA, h.2, gaStep, hc]⟩
theorem at_first (h : At s k 2 n le ar l x false) (hc : isL (g s k) = true) : At s (k + 1) 3 n 1 ar l ⟨x.name, x.word ++ [bt s k], x.args⟩ false := by
  have hl := (isL_iff _).1 hc
  exact ⟨stA_succ h.1 (by simp [nx, hc]), by
    simp [gaA, h.2, gaStep, hc, show g s k ≠ 61 by omega, show g s k ≠ 63 by omega, show g s k ≠ 40 by omega, show g s k ≠ 41 by omega, show g s k ≠ 59 by omega]⟩
theorem at_more (h : At s k 3 n le ar l x false) (hle : le < 6) (hc : isL (g s k) = true) : At s (k + 1) 3 n (le + 1) ar l ⟨x.name, x.word ++ [bt s k], x.args⟩ false := by
  have hl := (isL_iff _).1 hc
  exact ⟨stA_succ h.1 (by simp [nx, hc, hle]), by
    simp [gaA, h.2, gaStep, hc, show g s k ≠ 61 by omega, show g s k ≠ 63 by omega, show g s k ≠ 40 by omega, show g s k ≠ 41 by omega, show g s k ≠ 59 by omega]⟩
theorem at_open (h : At s k 3 n le ar l x ins) (hc : g s k = 40) : At s (k + 1) 4 n le 0 l x true :=
  ⟨stA_succ h.1 (by simp [nx, hc, isL]), by simp [gaA, h.2, gaStep, hc]⟩
theorem at_none (h : At s k 4 n le ar l x ins) (hc : g s k = 41) : At s (k + 1) 7 n le ar l x false :=
  ⟨stA_succ h.1 (by simp [nx, hc, isL]), by simp [gaA, h.2, gaStep, hc]⟩
theorem at_arg (h : At s k 4 n le ar l x true ∨ At s k 6 n le ar l x true) (hc : isL (g s k) = true) : At s (k + 1) 5 n le (ar + 1) l ⟨x.name, x.word, x.args ++ [bt s k]⟩ true := by
  have hl := (isL_iff _).1 hc
  rcases h with h | h <;>
  exact ⟨stA_succ h.1 (by simp [nx, hc]), by
    simp [gaA, h.2, gaStep, hc, show g s k ≠ 61 by omega, show g s k ≠ 63 by omega, show g s k ≠ 40 by omega, show g s k ≠ 41 by omega, show g s k ≠ 59 by omega]⟩
theorem at_shut (h : At s k 5 n le ar l x ins) (hc : g s k = 41) : At s (k + 1) 7 n le ar l x false :=
  ⟨stA_succ h.1 (by simp [nx, hc]), by simp [gaA, h.2, gaStep, hc]⟩
theorem at_comma (h : At s k 5 n le ar l x ins) (har : ar < 4) (hc : g s k = 44) : At s (k + 1) 6 n le ar l x ins :=
  ⟨stA_succ h.1 (by simp [nx, hc, har]), by simp [gaA, h.2, gaStep, hc, isL]⟩
theorem at_end (h : At s k 7 n le ar l x ins) (hc : g s k = 59) : At s (k + 1) 0 (n + 1) le ar (l ++ [x]) ⟨0, [], []⟩ ins :=
  ⟨stA_succ h.1 (by simp [nx, hc]), by simp [gaA, h.2, gaStep, hc]⟩

theorem stuck_of {st : Nat} (h : At s k st n le ar l x ins) (hk : k ≤ s.size) (h0 : st ≠ 0 ∨ k < s.size) (hn : nx ⟨st, n, le, ar⟩ (g s k) = none) : Stuck s k := by
  refine ⟨_, h.1, ?_⟩
  by_cases hlt : k < s.size
  · exact .inl ⟨hlt, hn⟩
  · exact .inr ⟨by omega, by rcases h0 with h0 | h0 <;> first | exact h0 | omega⟩
end steps

/-- Names: which of the first n gave it. -/
def giv (l : List St) (name : Nat) : Option Nat := l.findIdx? (fun x => decide (x.name = name))

end Go.Proofs.YtmnfndpbblpjiaaGreatDoor.Pu
