/- The plain functions by which the two sides are held together: the document's scanner and its gathering of statements, byte by byte; names, sorts, weights, faults. No program is named here. -/
import Derived.WalkKit
namespace Go.Proofs.YtmnfndpbblpjiaaGreatDoor.Pu
/-- The byte at a place, nought behind the end. -/
def bt (s : ByteArray) (i : Nat) : UInt8 := if h : i < s.size then s[i] else 0
def g (s : ByteArray) (i : Nat) : Nat := (bt s i).toNat
def isL (c : Nat) : Bool := decide (97 ≤ c) && decide (c ≤ 122)
theorem bt_in {s : ByteArray} {i : Nat} (h : i < s.size) : bt s i = s[i] := by simp [bt, h]
theorem g_in {s : ByteArray} {i : Nat} (h : i < s.size) : g s i = s[i].toNat := by simp [g, bt, h]
theorem g_out {s : ByteArray} {i : Nat} (h : s.size ≤ i) : g s i = 0 := by simp [g, bt, show ¬ i < s.size by omega]
theorem g_lt (s : ByteArray) (i : Nat) : g s i < 256 := (bt s i).toNat_lt
theorem lt_of_g {s : ByteArray} {i : Nat} (h : g s i ≠ 0) : i < s.size := by
  by_cases hl : i < s.size
  · exact hl
  · exact absurd (g_out (by omega)) h
/-- The scanner: its state, whole statements, letters, arguments. -/
structure Sc where
  st : Nat
  n : Nat
  le : Nat
  ar : Nat
def nx (x : Sc) (c : Nat) : Option Sc :=
  if x.st = 0 then
    if x.n = 16 then none else if c = 63 then some ⟨2, x.n, x.le, x.ar⟩ else if isL c then some ⟨1, x.n, x.le, x.ar⟩ else none
  else if x.st = 1 then (if c = 61 then some ⟨2, x.n, x.le, x.ar⟩ else none)
  else if x.st = 2 then (if isL c then some ⟨3, x.n, 1, x.ar⟩ else none)
  else if x.st = 3 then (if isL c && decide (x.le < 6) then some ⟨3, x.n, x.le + 1, x.ar⟩ else if c = 40 then some ⟨4, x.n, x.le, 0⟩ else none)
  else if x.st = 4 then (if isL c then some ⟨5, x.n, x.le, x.ar + 1⟩ else if c = 41 then some ⟨7, x.n, x.le, x.ar⟩ else none)
  else if x.st = 5 then (if c = 41 then some ⟨7, x.n, x.le, x.ar⟩ else if c = 44 ∧ x.ar < 4 then some ⟨6, x.n, x.le, x.ar⟩ else none)
  else if x.st = 6 then (if isL c then some ⟨5, x.n, x.le, x.ar + 1⟩ else none)
  else if x.st = 7 then (if c = 59 then some ⟨0, x.n + 1, x.le, x.ar⟩ else none)
  else none
def stA (s : ByteArray) : Nat → Option Sc
  | 0 => some ⟨0, 0, 0, 0⟩
  | i + 1 => (stA s i).bind fun x => nx x (g s i)
theorem stA_succ {s : ByteArray} {i : Nat} {x y : Sc} (h : stA s i = some x) (hn : nx x (g s i) = some y) : stA s (i + 1) = some y := by simp [stA, h, hn]
theorem stA_back {s : ByteArray} : ∀ {i : Nat} {y : Sc}, stA s (i + 1) = some y → ∃ x, stA s i = some x ∧ nx x (g s i) = some y := by
  intro i y h
  simp only [stA] at h
  cases hx : stA s i with
  | none => simp [hx] at h
  | some x => exact ⟨x, rfl, by simpa [hx] using h⟩
theorem stA_le {s : ByteArray} : ∀ {d i : Nat} {y : Sc}, stA s (i + d) = some y → ∃ x, stA s i = some x := by
  intro d
  induction d with
  | zero => intro i y h; exact ⟨y, h⟩
  | succ d ih => intro i y h; obtain ⟨x, hx, _⟩ := stA_back (i := i + d) h; exact ih hx
/-- The scanner stands at k and can go no further. -/
def Stuck (s : ByteArray) (k : Nat) : Prop := ∃ x, stA s k = some x ∧ ((k < s.size ∧ nx x (g s k) = none) ∨ (k = s.size ∧ x.st ≠ 0))
/-- The text is a source. -/
def Whole (s : ByteArray) : Prop := ∃ x, stA s s.size = some x ∧ x.st = 0
theorem Stuck.le {s : ByteArray} {k : Nat} (h : Stuck s k) : k ≤ s.size := by
  obtain ⟨x, _, h | h⟩ := h <;> omega
theorem Stuck.not_lt {s : ByteArray} {p q : Nat} (h : Stuck s p) {y : Sc} (hq : stA s q = some y) (hs : q ≤ s.size) : q ≤ p := by
  obtain ⟨x, hx, ⟨hlt, hn⟩ | ⟨he, _⟩⟩ := h
  · by_cases hle : q ≤ p
    · exact hle
    · obtain ⟨d, rfl⟩ : ∃ d, q = p + 1 + d := ⟨q - (p + 1), by omega⟩
      obtain ⟨z, hz⟩ := stA_le hq
      simp [stA, hx, hn] at hz
  · omega
theorem Stuck.unique {s : ByteArray} {p q : Nat} (h : Stuck s p) (k : Stuck s q) : p = q := by
  have h1 := h; have k1 := k
  obtain ⟨x, hx, _⟩ := h
  obtain ⟨y, hy, _⟩ := k
  have a := h1.not_lt hy k1.le
  have b := k1.not_lt hx h1.le
  omega
theorem Stuck.not_whole {s : ByteArray} {p : Nat} (h : Stuck s p) (k : Whole s) : False := by
  obtain ⟨y, hy, h0⟩ := k
  have a := h.not_lt hy (Nat.le_refl _)
  have hp : p = s.size := by have := h.le; omega
  subst hp
  obtain ⟨x, hx, ⟨hlt, _⟩ | ⟨_, hn⟩⟩ := h
  · omega
  · rw [hy] at hx; cases hx; exact hn h0
/-- A statement. -/
structure St where
  name : Nat
  word : List UInt8
  args : List UInt8
/-- The gathering of statements. -/
structure Ga where
  l : List St
  x : St
  ins : Bool
def gaStep (s : ByteArray) (i : Nat) (a : Ga) : Ga :=
  if g s i = 61 then ⟨a.l, ⟨g s (i - 1), [], a.x.args⟩, a.ins⟩
  else if g s i = 63 then ⟨a.l, ⟨a.x.name, [], a.x.args⟩, a.ins⟩
  else if g s i = 40 then ⟨a.l, a.x, true⟩
  else if g s i = 41 then ⟨a.l, a.x, false⟩
  else if g s i = 59 then ⟨a.l ++ [a.x], ⟨0, [], []⟩, a.ins⟩
  else if isL (g s i) then
    if a.ins then ⟨a.l, ⟨a.x.name, a.x.word, a.x.args ++ [bt s i]⟩, a.ins⟩ else ⟨a.l, ⟨a.x.name, a.x.word ++ [bt s i], a.x.args⟩, a.ins⟩
  else a
def gaA (s : ByteArray) : Nat → Ga
  | 0 => ⟨[], ⟨0, [], []⟩, false⟩
  | i + 1 => gaStep s i (gaA s i)
/-- Both stand so at k. -/
def At (s : ByteArray) (k st n le ar : Nat) (l : List St) (x : St) (ins : Bool) : Prop := stA s k = some ⟨st, n, le, ar⟩ ∧ gaA s k = ⟨l, x, ins⟩
theorem isL_iff (c : Nat) : isL c = true ↔ 97 ≤ c ∧ c ≤ 122 := by simp [isL]
section steps
variable {s : ByteArray} {k n le ar : Nat} {l : List St} {x : St} {ins : Bool}
theorem at_start (s : ByteArray) : At s 0 0 0 0 0 [] ⟨0, [], []⟩ false := ⟨rfl, rfl⟩
theorem at_ask (h : At s k 0 n le ar l x ins) (hn : n ≠ 16) (hc : g s k = 63) : At s (k + 1) 2 n le ar l ⟨x.name, [], x.args⟩ ins :=
  ⟨stA_succ h.1 (by simp [nx, hn, hc]), by simp [gaA, h.2, gaStep, hc]⟩
theorem at_name (h : At s k 0 n le ar l x false) (hn : n ≠ 16) (hc : isL (g s k) = true) : At s (k + 1) 1 n le ar l ⟨x.name, x.word ++ [bt s k], x.args⟩ false := by
  have hl := (isL_iff _).1 hc
  exact ⟨stA_succ h.1 (by simp [nx, hn, hc, show g s k ≠ 63 by omega]), by
    simp [gaA, h.2, gaStep, hc, show g s k ≠ 61 by omega, show g s k ≠ 63 by omega, show g s k ≠ 40 by omega, show g s k ≠ 41 by omega, show g s k ≠ 59 by omega]⟩
theorem at_equal (h : At s k 1 n le ar l x ins) (hc : g s k = 61) : At s (k + 1) 2 n le ar l ⟨g s (k - 1), [], x.args⟩ ins :=
  ⟨stA_succ h.1 (by simp [nx, hc]), by simp [gaA, h.2, gaStep, hc]⟩
theorem at_first (h : At s k 2 n le ar l x false) (hc : isL (g s k) = true) : At s (k + 1) 3 n 1 ar l ⟨x.name, x.word ++ [bt s k], x.args⟩ false := by
  have hl := (isL_iff _).1 hc
  exact ⟨stA_succ h.1 (by simp [nx, hc]), by
    simp [gaA, h.2, gaStep, hc, show g s k ≠ 61 by omega, show g s k ≠ 63 by omega, show g s k ≠ 40 by omega, show g s k ≠ 41 by omega, show g s k ≠ 59 by omega]⟩
theorem at_more (h : At s k 3 n le ar l x false) (hle : le < 6) (hc : isL (g s k) = true) : At s (k + 1) 3 n (le + 1) ar l ⟨x.name, x.word ++ [bt s k], x.args⟩ false := by
  have hl := (isL_iff _).1 hc
  exact ⟨stA_succ h.1 (by simp [nx, hc, hle]), by
    simp [gaA, h.2, gaStep, hc, show g s k ≠ 61 by omega, show g s k ≠ 63 by omega, show g s k ≠ 40 by omega, show g s k ≠ 41 by omega, show g s k ≠ 59 by omega]⟩
theorem at_open (h : At s k 3 n le ar l x ins) (hc : g s k = 40) : At s (k + 1) 4 n le 0 l x true :=
  ⟨stA_succ h.1 (by simp [nx, hc, isL]), by simp [gaA, h.2, gaStep, hc]⟩
theorem at_none (h : At s k 4 n le ar l x ins) (hc : g s k = 41) : At s (k + 1) 7 n le ar l x false :=
  ⟨stA_succ h.1 (by simp [nx, hc, isL]), by simp [gaA, h.2, gaStep, hc]⟩
theorem at_arg (h : At s k 4 n le ar l x true ∨ At s k 6 n le ar l x true) (hc : isL (g s k) = true) : At s (k + 1) 5 n le (ar + 1) l ⟨x.name, x.word, x.args ++ [bt s k]⟩ true := by
  have hl := (isL_iff _).1 hc
  rcases h with h | h <;>
  exact ⟨stA_succ h.1 (by simp [nx, hc]), by
    simp [gaA, h.2, gaStep, hc, show g s k ≠ 61 by omega, show g s k ≠ 63 by omega, show g s k ≠ 40 by omega, show g s k ≠ 41 by omega, show g s k ≠ 59 by omega]⟩
theorem at_shut (h : At s k 5 n le ar l x ins) (hc : g s k = 41) : At s (k + 1) 7 n le ar l x false :=
  ⟨stA_succ h.1 (by simp [nx, hc]), by simp [gaA, h.2, gaStep, hc]⟩
theorem at_comma (h : At s k 5 n le ar l x ins) (har : ar < 4) (hc : g s k = 44) : At s (k + 1) 6 n le ar l x ins :=
  ⟨stA_succ h.1 (by simp [nx, hc, har]), by simp [gaA, h.2, gaStep, hc, isL]⟩
theorem at_end (h : At s k 7 n le ar l x ins) (hc : g s k = 59) : At s (k + 1) 0 (n + 1) le ar (l ++ [x]) ⟨0, [], []⟩ ins :=
  ⟨stA_succ h.1 (by simp [nx, hc]), by simp [gaA, h.2, gaStep, hc]⟩
theorem stuck_of {st : Nat} (h : At s k st n le ar l x ins) (hk : k ≤ s.size) (h0 : st ≠ 0 ∨ k < s.size) (hn : nx ⟨st, n, le, ar⟩ (g s k) = none) : Stuck s k := by
  refine ⟨_, h.1, ?_⟩
  by_cases hlt : k < s.size
  · exact .inl ⟨hlt, hn⟩
  · exact .inr ⟨by omega, by rcases h0 with h0 | h0 <;> first | exact h0 | omega⟩
end steps
/-- Names: which of the first n gave it. -/
def giv (l : List St) (name : Nat) : Option Nat := l.findIdx? (fun x => decide (x.name = name))
end Go.Proofs.YtmnfndpbblpjiaaGreatDoor.Pu

/- Words, sorts, weights, faults: plain functions. -/
namespace Go.Proofs.YtmnfndpbblpjiaaGreatDoor.Pu
/-- A word's arguments and what it gives (80 a point, 76 a line, 63 an answer, 0: there is none). -/
def fm (w : List UInt8) : List UInt8 × Nat :=
  if w == [112, 116] then ([], 80) else
  if w == [109, 105, 100] then ([80, 80], 80) else
  if w == [108, 105, 110, 101] then ([80, 80], 76) else
  if w == [112, 97, 114] then ([80, 76], 76) else
  if w == [112, 101, 114, 112] then ([80, 76], 76) else
  if w == [109, 101, 101, 116] then ([76, 76], 80) else
  if w == [102, 111, 111, 116] then ([80, 76], 80) else
  if w == [109, 105, 114, 114, 111, 114] then ([80, 76], 80) else
  if w == [99, 101, 110, 116, 114, 101] then ([80, 80, 80], 80) else
  if w == [115, 97, 109, 101] then ([80, 80], 63) else
  if w == [99, 111, 108] then ([80, 80, 80], 63) else
  if w == [99, 99, 119] then ([80, 80, 80], 63) else
  if w == [98, 116, 119] then ([80, 80, 80], 63) else
  if w == [99, 111, 110] then ([80, 80, 80, 80], 63) else
  if w == [111, 110] then ([80, 76], 63) else
  if w == [112, 108, 108] then ([76, 76], 63) else
  if w == [112, 114, 112] then ([76, 76], 63) else
  if w == [99, 99] then ([76, 76, 76], 63) else ([], 0)
def qT (w : List UInt8) : List UInt8 × Bool :=
  if w == [115, 97, 109, 101] then ([80, 80], true) else
  if w == [99, 111, 108] then ([80, 80, 80], true) else
  if w == [99, 99, 119] then ([80, 80, 80], true) else
  if w == [98, 116, 119] then ([80, 80, 80], true) else
  if w == [99, 111, 110] then ([80, 80, 80, 80], true) else
  if w == [111, 110] then ([80, 76], true) else
  if w == [112, 108, 108] then ([76, 76], true) else
  if w == [112, 114, 112] then ([76, 76], true) else
  if w == [99, 99] then ([76, 76, 76], true) else ([], false)
def cT (w : List UInt8) : List UInt8 × Bool :=
  if w == [112, 116] then ([], true) else
  if w == [109, 105, 100] then ([80, 80], true) else
  if w == [108, 105, 110, 101] then ([80, 80], true) else
  if w == [112, 97, 114] then ([80, 76], true) else
  if w == [112, 101, 114, 112] then ([80, 76], true) else
  if w == [109, 101, 101, 116] then ([76, 76], true) else
  if w == [102, 111, 111, 116] then ([80, 76], true) else
  if w == [109, 105, 114, 114, 111, 114] then ([80, 76], true) else
  if w == [99, 101, 110, 116, 114, 101] then ([80, 80, 80], true) else ([], false)
def sG (w : List UInt8) : Nat :=
  if w == [108, 105, 110, 101] then 76 else if w == [112, 97, 114] then 76 else if w == [112, 101, 114, 112] then 76 else 80
def wG (w : List UInt8) (sum last : Nat) : Nat :=
  if w == [112, 116] then 1 else if w == [102, 111, 111, 116] then sum + last else if w == [109, 105, 114, 114, 111, 114] then 2 * sum else if w == [99, 101, 110, 116, 114, 101] then 4 * sum else sum
theorem qT_fm (w : List UInt8) : ((qT w).2 = true ↔ (fm w).2 = 63) ∧ ((qT w).2 = true → (qT w).1 = (fm w).1) := by
  by_cases h0 : w = [112, 116]
  · subst h0; first | decide | (intros; decide)
  by_cases h1 : w = [109, 105, 100]
  · subst h1; first | decide | (intros; decide)
  by_cases h2 : w = [108, 105, 110, 101]
  · subst h2; first | decide | (intros; decide)
  by_cases h3 : w = [112, 97, 114]
  · subst h3; first | decide | (intros; decide)
  by_cases h4 : w = [112, 101, 114, 112]
  · subst h4; first | decide | (intros; decide)
  by_cases h5 : w = [109, 101, 101, 116]
  · subst h5; first | decide | (intros; decide)
  by_cases h6 : w = [102, 111, 111, 116]
  · subst h6; first | decide | (intros; decide)
  by_cases h7 : w = [109, 105, 114, 114, 111, 114]
  · subst h7; first | decide | (intros; decide)
  by_cases h8 : w = [99, 101, 110, 116, 114, 101]
  · subst h8; first | decide | (intros; decide)
  by_cases h9 : w = [115, 97, 109, 101]
  · subst h9; first | decide | (intros; decide)
  by_cases h10 : w = [99, 111, 108]
  · subst h10; first | decide | (intros; decide)
  by_cases h11 : w = [99, 99, 119]
  · subst h11; first | decide | (intros; decide)
  by_cases h12 : w = [98, 116, 119]
  · subst h12; first | decide | (intros; decide)
  by_cases h13 : w = [99, 111, 110]
  · subst h13; first | decide | (intros; decide)
  by_cases h14 : w = [111, 110]
  · subst h14; first | decide | (intros; decide)
  by_cases h15 : w = [112, 108, 108]
  · subst h15; first | decide | (intros; decide)
  by_cases h16 : w = [112, 114, 112]
  · subst h16; first | decide | (intros; decide)
  by_cases h17 : w = [99, 99]
  · subst h17; first | decide | (intros; decide)
  simp [qT, fm, show (w == [112, 116]) = false from beq_eq_false_iff_ne.2 h0, show (w == [109, 105, 100]) = false from beq_eq_false_iff_ne.2 h1, show (w == [108, 105, 110, 101]) = false from beq_eq_false_iff_ne.2 h2, show (w == [112, 97, 114]) = false from beq_eq_false_iff_ne.2 h3, show (w == [112, 101, 114, 112]) = false from beq_eq_false_iff_ne.2 h4, show (w == [109, 101, 101, 116]) = false from beq_eq_false_iff_ne.2 h5, show (w == [102, 111, 111, 116]) = false from beq_eq_false_iff_ne.2 h6, show (w == [109, 105, 114, 114, 111, 114]) = false from beq_eq_false_iff_ne.2 h7, show (w == [99, 101, 110, 116, 114, 101]) = false from beq_eq_false_iff_ne.2 h8, show (w == [115, 97, 109, 101]) = false from beq_eq_false_iff_ne.2 h9, show (w == [99, 111, 108]) = false from beq_eq_false_iff_ne.2 h10, show (w == [99, 99, 119]) = false from beq_eq_false_iff_ne.2 h11, show (w == [98, 116, 119]) = false from beq_eq_false_iff_ne.2 h12, show (w == [99, 111, 110]) = false from beq_eq_false_iff_ne.2 h13, show (w == [111, 110]) = false from beq_eq_false_iff_ne.2 h14, show (w == [112, 108, 108]) = false from beq_eq_false_iff_ne.2 h15, show (w == [112, 114, 112]) = false from beq_eq_false_iff_ne.2 h16, show (w == [99, 99]) = false from beq_eq_false_iff_ne.2 h17]
theorem cT_fm (w : List UInt8) : ((cT w).2 = true ↔ (fm w).2 ≠ 63 ∧ (fm w).2 ≠ 0) ∧ ((cT w).2 = true → (cT w).1 = (fm w).1) := by
  by_cases h0 : w = [112, 116]
  · subst h0; first | decide | (intros; decide)
  by_cases h1 : w = [109, 105, 100]
  · subst h1; first | decide | (intros; decide)
  by_cases h2 : w = [108, 105, 110, 101]
  · subst h2; first | decide | (intros; decide)
  by_cases h3 : w = [112, 97, 114]
  · subst h3; first | decide | (intros; decide)
  by_cases h4 : w = [112, 101, 114, 112]
  · subst h4; first | decide | (intros; decide)
  by_cases h5 : w = [109, 101, 101, 116]
  · subst h5; first | decide | (intros; decide)
  by_cases h6 : w = [102, 111, 111, 116]
  · subst h6; first | decide | (intros; decide)
  by_cases h7 : w = [109, 105, 114, 114, 111, 114]
  · subst h7; first | decide | (intros; decide)
  by_cases h8 : w = [99, 101, 110, 116, 114, 101]
  · subst h8; first | decide | (intros; decide)
  by_cases h9 : w = [115, 97, 109, 101]
  · subst h9; first | decide | (intros; decide)
  by_cases h10 : w = [99, 111, 108]
  · subst h10; first | decide | (intros; decide)
  by_cases h11 : w = [99, 99, 119]
  · subst h11; first | decide | (intros; decide)
  by_cases h12 : w = [98, 116, 119]
  · subst h12; first | decide | (intros; decide)
  by_cases h13 : w = [99, 111, 110]
  · subst h13; first | decide | (intros; decide)
  by_cases h14 : w = [111, 110]
  · subst h14; first | decide | (intros; decide)
  by_cases h15 : w = [112, 108, 108]
  · subst h15; first | decide | (intros; decide)
  by_cases h16 : w = [112, 114, 112]
  · subst h16; first | decide | (intros; decide)
  by_cases h17 : w = [99, 99]
  · subst h17; first | decide | (intros; decide)
  simp [cT, fm, show (w == [112, 116]) = false from beq_eq_false_iff_ne.2 h0, show (w == [109, 105, 100]) = false from beq_eq_false_iff_ne.2 h1, show (w == [108, 105, 110, 101]) = false from beq_eq_false_iff_ne.2 h2, show (w == [112, 97, 114]) = false from beq_eq_false_iff_ne.2 h3, show (w == [112, 101, 114, 112]) = false from beq_eq_false_iff_ne.2 h4, show (w == [109, 101, 101, 116]) = false from beq_eq_false_iff_ne.2 h5, show (w == [102, 111, 111, 116]) = false from beq_eq_false_iff_ne.2 h6, show (w == [109, 105, 114, 114, 111, 114]) = false from beq_eq_false_iff_ne.2 h7, show (w == [99, 101, 110, 116, 114, 101]) = false from beq_eq_false_iff_ne.2 h8, show (w == [115, 97, 109, 101]) = false from beq_eq_false_iff_ne.2 h9, show (w == [99, 111, 108]) = false from beq_eq_false_iff_ne.2 h10, show (w == [99, 99, 119]) = false from beq_eq_false_iff_ne.2 h11, show (w == [98, 116, 119]) = false from beq_eq_false_iff_ne.2 h12, show (w == [99, 111, 110]) = false from beq_eq_false_iff_ne.2 h13, show (w == [111, 110]) = false from beq_eq_false_iff_ne.2 h14, show (w == [112, 108, 108]) = false from beq_eq_false_iff_ne.2 h15, show (w == [112, 114, 112]) = false from beq_eq_false_iff_ne.2 h16, show (w == [99, 99]) = false from beq_eq_false_iff_ne.2 h17]
theorem sG_fm (w : List UInt8) : (fm w).2 ≠ 63 → (fm w).2 ≠ 0 → sG w = (fm w).2 := by
  by_cases h0 : w = [112, 116]
  · subst h0; first | decide | (intros; decide)
  by_cases h1 : w = [109, 105, 100]
  · subst h1; first | decide | (intros; decide)
  by_cases h2 : w = [108, 105, 110, 101]
  · subst h2; first | decide | (intros; decide)
  by_cases h3 : w = [112, 97, 114]
  · subst h3; first | decide | (intros; decide)
  by_cases h4 : w = [112, 101, 114, 112]
  · subst h4; first | decide | (intros; decide)
  by_cases h5 : w = [109, 101, 101, 116]
  · subst h5; first | decide | (intros; decide)
  by_cases h6 : w = [102, 111, 111, 116]
  · subst h6; first | decide | (intros; decide)
  by_cases h7 : w = [109, 105, 114, 114, 111, 114]
  · subst h7; first | decide | (intros; decide)
  by_cases h8 : w = [99, 101, 110, 116, 114, 101]
  · subst h8; first | decide | (intros; decide)
  by_cases h9 : w = [115, 97, 109, 101]
  · subst h9; first | decide | (intros; decide)
  by_cases h10 : w = [99, 111, 108]
  · subst h10; first | decide | (intros; decide)
  by_cases h11 : w = [99, 99, 119]
  · subst h11; first | decide | (intros; decide)
  by_cases h12 : w = [98, 116, 119]
  · subst h12; first | decide | (intros; decide)
  by_cases h13 : w = [99, 111, 110]
  · subst h13; first | decide | (intros; decide)
  by_cases h14 : w = [111, 110]
  · subst h14; first | decide | (intros; decide)
  by_cases h15 : w = [112, 108, 108]
  · subst h15; first | decide | (intros; decide)
  by_cases h16 : w = [112, 114, 112]
  · subst h16; first | decide | (intros; decide)
  by_cases h17 : w = [99, 99]
  · subst h17; first | decide | (intros; decide)
  simp [sG, fm, show (w == [112, 116]) = false from beq_eq_false_iff_ne.2 h0, show (w == [109, 105, 100]) = false from beq_eq_false_iff_ne.2 h1, show (w == [108, 105, 110, 101]) = false from beq_eq_false_iff_ne.2 h2, show (w == [112, 97, 114]) = false from beq_eq_false_iff_ne.2 h3, show (w == [112, 101, 114, 112]) = false from beq_eq_false_iff_ne.2 h4, show (w == [109, 101, 101, 116]) = false from beq_eq_false_iff_ne.2 h5, show (w == [102, 111, 111, 116]) = false from beq_eq_false_iff_ne.2 h6, show (w == [109, 105, 114, 114, 111, 114]) = false from beq_eq_false_iff_ne.2 h7, show (w == [99, 101, 110, 116, 114, 101]) = false from beq_eq_false_iff_ne.2 h8, show (w == [115, 97, 109, 101]) = false from beq_eq_false_iff_ne.2 h9, show (w == [99, 111, 108]) = false from beq_eq_false_iff_ne.2 h10, show (w == [99, 99, 119]) = false from beq_eq_false_iff_ne.2 h11, show (w == [98, 116, 119]) = false from beq_eq_false_iff_ne.2 h12, show (w == [99, 111, 110]) = false from beq_eq_false_iff_ne.2 h13, show (w == [111, 110]) = false from beq_eq_false_iff_ne.2 h14, show (w == [112, 108, 108]) = false from beq_eq_false_iff_ne.2 h15, show (w == [112, 114, 112]) = false from beq_eq_false_iff_ne.2 h16, show (w == [99, 99]) = false from beq_eq_false_iff_ne.2 h17]
/-- Which gave the name: the first, or -1. -/
def gvI (l : List St) (nm : Nat) : Int := match l.findIdx? (fun x => x.name == nm) with
  | some k => (k : Int)
  | none => -1
theorem gvI_none {l : List St} {nm : Nat} (h : ∀ j (hj : j < l.length), l[j].name ≠ nm) : gvI l nm = -1 := by
  have : l.findIdx? (fun x => x.name == nm) = none := by
    rw [List.findIdx?_eq_none_iff]
    intro x hx
    obtain ⟨j, hj, rfl⟩ := List.getElem_of_mem hx
    simpa using h j hj
  simp [gvI, this]
theorem gvI_some {l : List St} {nm k : Nat} (hk : k < l.length) (he : l[k].name = nm) (h : ∀ j (hj : j < k), l[j].name ≠ nm) : gvI l nm = k := by
  have : l.findIdx? (fun x => x.name == nm) = some k := by
    rw [List.findIdx?_eq_some_iff_getElem]
    exact ⟨hk, by simpa using he, fun j hj => by simpa using h j hj⟩
  simp [gvI, this]
theorem gvI_cases (l : List St) (nm : Nat) : (gvI l nm = -1 ∧ ∀ j (hj : j < l.length), l[j].name ≠ nm) ∨ (∃ k, ∃ hk : k < l.length, gvI l nm = (k : Int) ∧ l[k].name = nm ∧ ∀ j (hj : j < k), l[j].name ≠ nm) := by
  cases h : l.findIdx? (fun x => x.name == nm) with
  | none =>
    refine .inl ⟨by simp [gvI, h], fun j hj => ?_⟩
    rw [List.findIdx?_eq_none_iff] at h
    simpa using h l[j] (List.getElem_mem hj)
  | some k =>
    rw [List.findIdx?_eq_some_iff_getElem] at h
    obtain ⟨hk, h1, h2⟩ := h
    have h2' : ∀ j (hj : j < k), l[j].name ≠ nm := fun j hj => by simpa using h2 j hj
    exact .inr ⟨k, hk, gvI_some hk (by simpa using h1) h2', by simpa using h1, h2'⟩
end Go.Proofs.YtmnfndpbblpjiaaGreatDoor.Pu

/- Weights and faults: plain functions over the statements ahead and their weights. -/
namespace Go.Proofs.YtmnfndpbblpjiaaGreatDoor.Pu
def sts (p : List (St × Nat)) : List St := p.map Prod.fst
theorem sts_len (p : List (St × Nat)) : (sts p).length = p.length := by simp [sts]
def who (p : List (St × Nat)) (nm : Nat) : Option (St × Nat) := p.find? (fun y => y.1.name == nm)
def argW (p : List (St × Nat)) (nm : Nat) : Nat := ((who p nm).map Prod.snd).getD 0
def argWord (p : List (St × Nat)) (nm : Nat) : List UInt8 := ((who p nm).map (fun y => y.1.word)).getD []
theorem who_of {p : List (St × Nat)} {nm k : Nat} (hk : k < p.length) (h : gvI (sts p) nm = (k : Int)) : who p nm = some p[k] := by
  rcases gvI_cases (sts p) nm with ⟨h1, _⟩ | ⟨k', hk', h1, h2, h3⟩
  · omega
  · have : k' = k := by omega
    subst this
    unfold who
    rw [List.find?_eq_some_iff_getElem]
    refine ⟨by simpa [sts] using h2, k', hk, rfl, fun j hj => ?_⟩
    simpa [sts] using h3 j hj
theorem given_lt {p : List (St × Nat)} {nm : Nat} (h : gvI (sts p) nm ≠ -1) : ∃ k, ∃ hk : k < p.length, gvI (sts p) nm = (k : Int) ∧ p[k].1.name = nm := by
  rcases gvI_cases (sts p) nm with ⟨h1, _⟩ | ⟨k', hk', h1, h2, h3⟩
  · exact absurd h1 h
  · exact ⟨k', by simpa [sts] using hk', h1, by simpa [sts] using h2⟩
def sumW (p : List (St × Nat)) (ag : List UInt8) : Nat := (ag.map fun a => argW p a.toNat).sum
def lastW (p : List (St × Nat)) (ag : List UInt8) : Nat := (ag.getLast?.map fun a => argW p a.toNat).getD 0
theorem sumW_snoc (p : List (St × Nat)) (ag : List UInt8) (a : UInt8) : sumW p (ag ++ [a]) = sumW p ag + argW p a.toNat := by simp [sumW]
theorem lastW_snoc (p : List (St × Nat)) (ag : List UInt8) (a : UInt8) : lastW p (ag ++ [a]) = argW p a.toNat := by simp [lastW]
def wgh (p : List (St × Nat)) (x : St) : Nat := if x.name = 0 then 0 else wG x.word (sumW p x.args) (lastW p x.args)
/-- The arguments are names that are given; the name isn't. -/
def namesOk (l : List St) (x : St) : Bool := x.args.all (fun a => gvI l a.toNat != -1) && (x.name == 0 || gvI l x.name == -1)
/-- The sorts, by what the document's table says of the givers' words. -/
def sortsOk (p : List (St × Nat)) (ag so : List UInt8) : Bool := (ag.zip so).all fun y => (fm (argWord p y.1.toNat)).2 == y.2.toNat
def sortsOkG (p : List (St × Nat)) (ag so : List UInt8) : Bool := (ag.zip so).all fun y => sG (argWord p y.1.toNat) == y.2.toNat
def known (x : St) : Bool := (fm x.word).2 != 0 && (decide ((fm x.word).2 = 63) == decide (x.name = 0))
def err (p : List (St × Nat)) (x : St) : Nat :=
  if known x = false then 3
  else if x.args.length ≠ (fm x.word).1.length then 4
  else if namesOk (sts p) x = false then 5
  else if sortsOk p x.args (fm x.word).1 = false then 6
  else if 64 < wgh p x then 7
  else 0
/-- All are right, and bear their weights. -/
def Ok (p : List (St × Nat)) : Prop := ∀ j (hj : j < p.length), err (p.take j) p[j].1 = 0 ∧ p[j].2 = wgh (p.take j) p[j].1
theorem Ok.nil : Ok [] := fun j hj => by simp at hj
theorem Ok.snoc {p : List (St × Nat)} {x : St} (h : Ok p) (he : err p x = 0) : Ok (p ++ [(x, wgh p x)]) := by
  intro j hj
  by_cases hl : j < p.length
  · have := h j hl
    rw [List.take_append_of_le_length (by omega), List.getElem_append_left hl]
    exact this
  · have : j = p.length := by simp at hj; omega
    subst this
    simp [he]
theorem err_zero {p : List (St × Nat)} {x : St} (h : err p x = 0) : known x = true ∧ x.args.length = (fm x.word).1.length ∧ namesOk (sts p) x = true ∧ sortsOk p x.args (fm x.word).1 = true ∧ wgh p x ≤ 64 := by
  unfold err at h
  by_cases h1 : known x = false
  · simp [h1] at h
  · by_cases h2 : x.args.length ≠ (fm x.word).1.length
    · simp [h1, h2] at h
    · by_cases h3 : namesOk (sts p) x = false
      · simp [h1, h2, h3] at h
      · by_cases h4 : sortsOk p x.args (fm x.word).1 = false
        · simp [h1, h2, h3, h4] at h
        · by_cases h5 : 64 < wgh p x
          · simp [h1, h2, h3, h4, h5] at h
          · exact ⟨by simpa using h1, by simpa using h2, by simpa using h3, by simpa using h4, by omega⟩
theorem Ok.weight {p : List (St × Nat)} (h : Ok p) {j : Nat} (hj : j < p.length) : p[j].2 ≤ 64 := by
  obtain ⟨h1, h2⟩ := h j hj
  rw [h2]; exact (err_zero h1).2.2.2.2
theorem Ok.argW {p : List (St × Nat)} (h : Ok p) (nm : Nat) : argW p nm ≤ 64 := by
  unfold Pu.argW who
  cases hf : p.find? (fun y => y.1.name == nm) with
  | none => simp
  | some y =>
    obtain ⟨j, hj, rfl⟩ := List.getElem_of_mem (List.mem_of_find?_eq_some hf)
    simpa using h.weight hj
theorem Ok.sumW {p : List (St × Nat)} (h : Ok p) (ag : List UInt8) : sumW p ag ≤ 64 * ag.length := by
  induction ag with
  | nil => simp [Pu.sumW]
  | cons a ag ih =>
    have := h.argW a.toNat
    simp only [Pu.sumW, List.map_cons, List.sum_cons, List.length_cons] at *
    omega
theorem Ok.lastW {p : List (St × Nat)} (h : Ok p) (ag : List UInt8) : lastW p ag ≤ 64 := by
  unfold Pu.lastW
  cases ag.getLast? with
  | none => simp
  | some a => simpa using h.argW a.toNat
theorem fm_len (w : List UInt8) : (fm w).1.length ≤ 4 := by
  have key : ∀ (b : Bool) (x y : List UInt8 × Nat), x.1.length ≤ 4 → y.1.length ≤ 4 → (if b then x else y).1.length ≤ 4 := fun b x y hx hy => by cases b <;> simp [hx, hy]
  unfold fm
  repeat' (refine key _ _ _ ?_ ?_)
  all_goals decide
/-- Where names are letters both tables of sorts say the same. -/
theorem sorts_same {p : List (St × Nat)} (h : Ok p) {ag so : List UInt8} (hg : ∀ a ∈ ag, gvI (sts p) a.toNat ≠ -1) (hz : ∀ a ∈ ag, a.toNat ≠ 0) : sortsOkG p ag so = sortsOk p ag so := by
  unfold sortsOkG sortsOk
  rw [Bool.eq_iff_iff, List.all_eq_true, List.all_eq_true]
  have key : ∀ y ∈ ag.zip so, sG (argWord p y.1.toNat) = (fm (argWord p y.1.toNat)).2 := by
    intro y hy
    have ha : y.1 ∈ ag := (List.of_mem_zip hy).1
    obtain ⟨k, hk, h1, h2⟩ := given_lt (hg _ ha)
    have hw := who_of hk h1
    have hword : argWord p y.1.toNat = p[k].1.word := by simp [argWord, hw]
    have hkn := (err_zero (h k hk).1).1
    unfold known at hkn
    have hn0 : p[k].1.name ≠ 0 := by rw [h2]; exact hz _ ha
    simp [hn0] at hkn
    rw [hword]
    exact sG_fm _ hkn.2 hkn.1
  constructor
  · intro H y hy; rw [← key y hy]; exact H y hy
  · intro H y hy; rw [key y hy]; exact H y hy
end Go.Proofs.YtmnfndpbblpjiaaGreatDoor.Pu

/- Codes: plain functions: steps, what sets a register, what is right. -/
namespace Go.Proofs.YtmnfndpbblpjiaaGreatDoor.Pu
structure Stp where
  op : Nat
  x : Nat
  y : Nat
  z : Nat
def stepAt (s : ByteArray) (k : Nat) : Stp := ⟨g s (6 + 4 * k), g s (6 + 4 * k + 1), g s (6 + 4 * k + 2), g s (6 + 4 * k + 3)⟩
def nst (s : ByteArray) : Nat := (s.size - 6) / 4
def stepsTo (s : ByteArray) (n : Nat) : List Stp := (List.range n).map (stepAt s)
def steps (s : ByteArray) : List Stp := stepsTo s (nst s)
theorem stepsTo_len (s : ByteArray) (n : Nat) : (stepsTo s n).length = n := by simp [stepsTo]
theorem stepsTo_succ (s : ByteArray) (n : Nat) : stepsTo s (n + 1) = stepsTo s n ++ [stepAt s n] := by simp [stepsTo, List.range_succ]
theorem steps_at (s : ByteArray) (k : Nat) (h : k < (steps s).length) : (steps s)[k] = stepAt s k := by simp [steps, stepsTo]
def Small (t : Stp) : Prop := t.op < 256 ∧ t.x < 256 ∧ t.y < 256 ∧ t.z < 256
theorem stepAt_small (s : ByteArray) (k : Nat) : Small (stepAt s k) := ⟨g_lt s _, g_lt s _, g_lt s _, g_lt s _⟩
theorem steps_small (s : ByteArray) : ∀ t ∈ steps s, Small t := by
  intro t ht
  simp [steps, stepsTo] at ht
  obtain ⟨k, _, rfl⟩ := ht
  exact stepAt_small s k
def begunB (s : ByteArray) : Bool :=
  decide (6 ≤ s.size) && (decide (g s 0 = 82) && decide (g s 1 = 85)) && decide (1 ≤ g s 2) && decide (g s 2 ≤ 128) && decide (g s 3 ≤ 32) && decide (g s 5 * 256 + g s 4 ≤ 2000) && decide (s.size = 6 + 4 * (g s 5 * 256 + g s 4))
/-- The last step ahead of k that sets r. -/
def setterI (l : List Stp) (r : Nat) : Nat → Int
  | 0 => -1
  | k + 1 => match l[k]? with
    | some t => if t.op ≤ 5 ∧ t.x = r then (k : Int) else setterI l r k
    | none => setterI l r k
def readsOf (t : Stp) : List Nat := (if 2 ≤ t.op ∧ t.op ≤ 5 then [t.y] else []) ++ (if 2 ≤ t.op ∧ t.op ≤ 4 then [t.z] else []) ++ (if 6 ≤ t.op then [t.x] else [])
def properB (t : Stp) (regs ins : Nat) : Bool :=
  if 7 < t.op ∨ regs ≤ t.x then false
  else if t.op = 0 ∧ ins ≤ t.y then false
  else if t.op = 6 ∧ t.y ≠ 0 then false
  else if t.op = 7 then decide (t.y < 3) && decide (t.z < 16)
  else decide (t.z = 0) || (decide (2 ≤ t.op) && decide (t.op ≤ 4))
def rightB (l : List Stp) (k : Nat) (t : Stp) (regs ins : Nat) : Bool := properB t regs ins && (readsOf t).all fun r => decide (r < regs) && decide (0 ≤ setterI l r k)
theorem setterI_lt (l : List Stp) (r : Nat) : ∀ k, setterI l r k < k := by
  intro k
  induction k with
  | zero => simp [setterI]
  | succ k ih =>
    simp only [setterI]
    split
    · split
      · omega
      · omega
    · omega
theorem setterI_ge (l : List Stp) (r : Nat) : ∀ k, -1 ≤ setterI l r k := by
  intro k
  induction k with
  | zero => simp [setterI]
  | succ k ih =>
    simp only [setterI]
    split
    · split <;> omega
    · omega
theorem setterI_hit {l : List Stp} {r k : Nat} (hk : k < l.length) (h : l[k].op ≤ 5 ∧ l[k].x = r) : setterI l r (k + 1) = (k : Int) := by simp [setterI, hk, h]
theorem setterI_miss {l : List Stp} {r k : Nat} (hk : k < l.length) (h : ¬ (l[k].op ≤ 5 ∧ l[k].x = r)) : setterI l r (k + 1) = setterI l r k := by
  simp only [setterI, List.getElem?_eq_getElem hk]
  rw [if_neg h]
theorem readsOf_len (t : Stp) : (readsOf t).length ≤ 3 := by
  unfold readsOf; repeat' split
  all_goals simp
/-- What Verify answers of a text that is not too long. -/
def vfy (s : ByteArray) : Nat × Nat :=
  if begunB s = false then (8, 0)
  else match (List.range (nst s)).find? fun k => !rightB (steps s) k (stepAt s k) (g s 2) (g s 3) with
    | some k => (8, 1 + k)
    | none => (0, 0)
theorem vfy_bad {s : ByteArray} (h : begunB s = false) : vfy s = (8, 0) := by simp [vfy, h]
theorem vfy_at {s : ByteArray} {k : Nat} (h : begunB s = true) (hk : k < nst s) (hb : rightB (steps s) k (stepAt s k) (g s 2) (g s 3) = false) (ha : ∀ j, j < k → rightB (steps s) j (stepAt s j) (g s 2) (g s 3) = true) : vfy s = (8, 1 + k) := by
  have : (List.range (nst s)).find? (fun k => !rightB (steps s) k (stepAt s k) (g s 2) (g s 3)) = some k := by
    rw [List.find?_range_eq_some]
    exact ⟨by simp [hb], by simpa using hk, fun j hj => by simp [ha j hj]⟩
  simp [vfy, h, this]
theorem vfy_ok {s : ByteArray} (h : begunB s = true) (ha : ∀ j, j < nst s → rightB (steps s) j (stepAt s j) (g s 2) (g s 3) = true) : vfy s = (0, 0) := by
  have : (List.range (nst s)).find? (fun k => !rightB (steps s) k (stepAt s k) (g s 2) (g s 3)) = none := by
    rw [List.find?_eq_none]
    intro j hj
    simp [ha j (by simpa using hj)]
  simp [vfy, h, this]
theorem nst_of {s : ByteArray} (h : begunB s = true) : 6 ≤ s.size ∧ nst s = g s 5 * 256 + g s 4 ∧ nst s ≤ 2000 ∧ s.size = 6 + 4 * nst s ∧ 1 ≤ g s 2 ∧ g s 2 ≤ 128 ∧ g s 3 ≤ 32 := by
  simp only [begunB, Bool.and_eq_true, decide_eq_true_eq] at h
  unfold nst
  omega
end Go.Proofs.YtmnfndpbblpjiaaGreatDoor.Pu

/- Codes, as the program holds them: what fits, which registers are marked. -/
namespace Go.Proofs.YtmnfndpbblpjiaaGreatDoor.Pu
def rz (op : Nat) : Bool := decide (op = 2) || decide (op = 3) || decide (op = 4)
def ry (op : Nat) : Bool := decide (op = 5) || rz op
def opFit (t : Stp) (ins : Nat) : Bool :=
  if t.op = 0 then decide (t.y < ins) && decide (t.z = 0)
  else if t.op = 1 ∨ t.op = 5 then decide (t.z = 0)
  else if t.op = 2 ∨ t.op = 3 ∨ t.op = 4 then true
  else if t.op = 6 then decide (t.y = 0) && decide (t.z = 0)
  else if t.op = 7 then decide (t.y < 3) && decide (t.z < 16)
  else false
def rdFit (M : Nat → Bool) (t : Stp) : Bool := (decide (t.op ≤ 5) || M t.x) && (!(ry t.op) || M t.y) && (!(rz t.op) || M t.z)
def stFit (M : Nat → Bool) (t : Stp) (regs ins : Nat) : Bool := opFit t ins && decide (t.x < regs) && rdFit M t
/-- Which registers a step ahead of k sets. -/
def Set (l : List Stp) (k : Nat) : Nat → Bool := fun r => decide (0 ≤ setterI l r k)
theorem Set_zero (l : List Stp) : Set l 0 = fun _ => false := by funext r; simp [Set, setterI]
theorem Set_yes {l : List Stp} {k : Nat} (hk : k < l.length) (h : l[k].op ≤ 5) : Set l (k + 1) = fun r => if r = l[k].x then true else Set l k r := by
  funext r
  unfold Set
  by_cases e : r = l[k].x
  · subst e; rw [setterI_hit hk ⟨h, rfl⟩, if_pos rfl]; simp
  · rw [setterI_miss hk (fun h2 => e h2.2.symm), if_neg e]
theorem Set_no {l : List Stp} {k : Nat} (hk : k < l.length) (h : ¬ l[k].op ≤ 5) : Set l (k + 1) = Set l k := by
  funext r
  unfold Set
  rw [setterI_miss hk (fun h2 => h h2.1)]
theorem proper_fit (t : Stp) (regs ins : Nat) : properB t regs ins = (opFit t ins && decide (t.x < regs)) := by
  unfold properB opFit
  rcases t with ⟨op, x, y, z⟩
  by_cases hx : regs ≤ x
  · simp [hx]
  · have hx' : x < regs := by omega
    simp only [hx, hx', or_false, decide_true, Bool.and_true]
    by_cases h7 : 7 < op
    · simp [h7, show ¬ op = 0 by omega, show ¬ op = 1 by omega, show ¬ op = 2 by omega, show ¬ op = 3 by omega, show ¬ op = 4 by omega, show ¬ op = 5 by omega, show ¬ op = 6 by omega, show ¬ op = 7 by omega]
    · have : op = 0 ∨ op = 1 ∨ op = 2 ∨ op = 3 ∨ op = 4 ∨ op = 5 ∨ op = 6 ∨ op = 7 := by omega
      rcases this with rfl | rfl | rfl | rfl | rfl | rfl | rfl | rfl <;> simp
      · by_cases hy : ins ≤ y
        · simp [hy, show ¬ y < ins by omega]
        · simp [hy, show y < ins by omega]
theorem right_fit (l : List Stp) (k : Nat) (t : Stp) (regs ins : Nat) (H : ∀ r, Set l k r = true → r < regs) : rightB l k t regs ins = stFit (Set l k) t regs ins := by
  unfold rightB stFit
  rw [proper_fit]
  cases h : opFit t ins && decide (t.x < regs)
  · rfl
  · simp only [Bool.true_and]
    have h7 : t.op ≤ 7 := by
      refine Nat.le_of_not_lt fun hh => ?_
      simp [opFit, show ¬ t.op = 0 by omega, show ¬ t.op = 1 by omega, show ¬ t.op = 2 by omega, show ¬ t.op = 3 by omega, show ¬ t.op = 4 by omega, show ¬ t.op = 5 by omega, show ¬ t.op = 6 by omega, show ¬ t.op = 7 by omega] at h
    have hm : ∀ r, (decide (r < regs) && decide (0 ≤ setterI l r k)) = Set l k r := fun r => by
      have := H r
      unfold Set at *
      by_cases e : 0 ≤ setterI l r k
      · simp [e, this (by simp [e])]
      · simp [e]
    simp only [hm]
    unfold readsOf rdFit ry rz
    have : t.op = 0 ∨ t.op = 1 ∨ t.op = 2 ∨ t.op = 3 ∨ t.op = 4 ∨ t.op = 5 ∨ t.op = 6 ∨ t.op = 7 := by omega
    rcases this with e | e | e | e | e | e | e | e <;> simp [e]
/-- What is set is below REGS, as long as all steps are right. -/
theorem Set_below {l : List Stp} {k regs ins : Nat} (hk : k ≤ l.length) (h : ∀ j (hj : j < k), rightB l j (l[j]'(by omega)) regs ins = true) : ∀ r, Set l k r = true → r < regs := by
  induction k with
  | zero => intro r hr; simp [Set_zero] at hr
  | succ k ih =>
    intro r hr
    have hkl : k < l.length := by omega
    by_cases h5 : l[k].op ≤ 5
    · rw [Set_yes hkl h5] at hr
      by_cases e : r = l[k].x
      · have := h k (by omega)
        unfold rightB at this
        rw [proper_fit] at this
        simp at this
        omega
      · simp only [if_neg e] at hr
        exact ih (by omega) (fun j hj => h j (by omega)) r hr
    · rw [Set_no hkl h5] at hr
      exact ih (by omega) (fun j hj => h j (by omega)) r hr
end Go.Proofs.YtmnfndpbblpjiaaGreatDoor.Pu

/- Codes: plain functions: which steps are needed. -/
namespace Go.Proofs.YtmnfndpbblpjiaaGreatDoor.Pu
def mark1 (l : List Stp) (k : Nat) (nd : List Bool) (r : Nat) : List Bool := if 0 ≤ setterI l r k then nd.set (setterI l r k).toNat true else nd
def marks (l : List Stp) (k : Nat) (rs : List Nat) (nd : List Bool) : List Bool := rs.foldl (mark1 l k) nd
def isN (l : List Stp) (k : Nat) (nd : List Bool) : Bool := nd[k]?.getD false || decide (6 ≤ (l[k]?.getD ⟨0, 0, 0, 0⟩).op)
def needStep (l : List Stp) (k : Nat) (nd : List Bool) : List Bool :=
  if isN l k nd then marks l k (readsOf (l[k]?.getD ⟨0, 0, 0, 0⟩)) (nd.set k true) else nd
def needFrom (l : List Stp) : Nat → List Bool → List Bool
  | 0, nd => nd
  | k + 1, nd => needFrom l k (needStep l k nd)
def neededL (l : List Stp) : List Bool := needFrom l l.length (List.replicate l.length false)
theorem mark1_len (l : List Stp) (k : Nat) (nd : List Bool) (r : Nat) : (mark1 l k nd r).length = nd.length := by unfold mark1; split <;> simp
theorem marks_len (l : List Stp) (k : Nat) (rs : List Nat) (nd : List Bool) : (marks l k rs nd).length = nd.length := by
  induction rs generalizing nd with
  | nil => rfl
  | cons r rs ih => show (marks l k rs (mark1 l k nd r)).length = _; rw [ih, mark1_len]
theorem needStep_len (l : List Stp) (k : Nat) (nd : List Bool) : (needStep l k nd).length = nd.length := by
  unfold needStep; split
  · rw [marks_len]; simp
  · rfl
theorem needFrom_len (l : List Stp) (k : Nat) (nd : List Bool) : (needFrom l k nd).length = nd.length := by
  induction k generalizing nd with
  | zero => rfl
  | succ k ih => show (needFrom l k (needStep l k nd)).length = _; rw [ih, needStep_len]
theorem neededL_len (l : List Stp) : (neededL l).length = l.length := by unfold neededL; rw [needFrom_len]; simp
theorem marks_take (l : List Stp) (k : Nat) (rs : List Nat) (nd : List Bool) (j : Nat) (hj : j < rs.length) : marks l k (rs.take (j + 1)) nd = mark1 l k (marks l k (rs.take j) nd) rs[j] := by
  unfold marks
  rw [List.take_succ_eq_append_getElem hj, List.foldl_append]
  rfl
theorem isN_at {l : List Stp} {k : Nat} {nd : List Bool} (hk : k < l.length) (hn : k < nd.length) : isN l k nd = (nd[k] || decide (6 ≤ l[k].op)) := by simp [isN, hk, hn]
theorem needStep_yes {l : List Stp} {k : Nat} {nd : List Bool} (hk : k < l.length) (h : isN l k nd = true) : needStep l k nd = marks l k (readsOf l[k]) (nd.set k true) := by simp [needStep, h, hk]
theorem needStep_no {l : List Stp} {k : Nat} {nd : List Bool} (h : isN l k nd = false) : needStep l k nd = nd := by simp [needStep, h]
/-- The steps that are kept, ahead of step k, and how many they are. -/
def bodyTo (s : ByteArray) (nd : List Bool) : Nat → ByteArray
  | 0 => ⟨#[]⟩
  | k + 1 => if nd[k]?.getD false then bodyTo s nd k ++ s.extract (6 + 4 * k) (10 + 4 * k) else bodyTo s nd k
def cntTo (nd : List Bool) : Nat → Nat
  | 0 => 0
  | k + 1 => if nd[k]?.getD false then cntTo nd k + 1 else cntTo nd k
theorem cntTo_le (nd : List Bool) (k : Nat) : cntTo nd k ≤ k := by
  induction k with
  | zero => simp [cntTo]
  | succ k ih => simp only [cntTo]; split <;> omega
theorem bodyTo_yes {s : ByteArray} {nd : List Bool} {k : Nat} (h : k < nd.length) (hb : nd[k] = true) : bodyTo s nd (k + 1) = bodyTo s nd k ++ s.extract (6 + 4 * k) (10 + 4 * k) := by simp [bodyTo, h, hb]
theorem bodyTo_no {s : ByteArray} {nd : List Bool} {k : Nat} (h : k < nd.length) (hb : nd[k] = false) : bodyTo s nd (k + 1) = bodyTo s nd k := by simp [bodyTo, h, hb]
theorem cntTo_yes {nd : List Bool} {k : Nat} (h : k < nd.length) (hb : nd[k] = true) : cntTo nd (k + 1) = cntTo nd k + 1 := by simp [cntTo, h, hb]
theorem cntTo_no {nd : List Bool} {k : Nat} (h : k < nd.length) (hb : nd[k] = false) : cntTo nd (k + 1) = cntTo nd k := by simp [cntTo, h, hb]
theorem bodyTo_size (s : ByteArray) (nd : List Bool) (k : Nat) : (bodyTo s nd k).size ≤ 4 * k := by
  induction k with
  | zero => simp [bodyTo, ByteArray.size]
  | succ k ih =>
    simp only [bodyTo]; split
    · rw [ByteArray.size_append, ByteArray.size_extract]; omega
    · omega
/-- What Shrink answers of a right code. -/
def shr (s : ByteArray) : ByteArray :=
  s.extract 0 4 ++ ⟨#[UInt8.ofNat (cntTo (neededL (steps s)) (nst s) % 256), UInt8.ofNat (cntTo (neededL (steps s)) (nst s) / 256)]⟩ ++ bodyTo s (neededL (steps s)) (nst s)
end Go.Proofs.YtmnfndpbblpjiaaGreatDoor.Pu
