/- The plain functions by which the two sides are held together: the document's scanner and its gathering of statements, byte by byte; names, sorts, weights, faults. No program is named here. -/
import Derived.WalkKit
import Derived.Test.YtmnfndpbblpjiaaDoorRows
import Derived.WalkSpells
import Derived.WalkLawsBesides
import Derived.Deep.QuietTactic
import Derived.BigQuiet
import Derived.BigRegion
namespace Go.Proofs.YtmnfndpbblpjiaaDoor.Pu

/-- The byte at a place, nought behind the end. -/
def bt (s : ByteArray) (i : Nat) : UInt8 := if h : i < s.size then s[i] else 0
def g (s : ByteArray) (i : Nat) : Nat := (bt s i).toNat
def isL (c : Nat) : Bool := decide (97 ≤ c) && decide (c ≤ 122)

theorem bt_in {s : ByteArray} {i : Nat} (h : i < s.size) : bt s i = s[i] := by simp [bt, h]
theorem g_in {s : ByteArray} {i : Nat} (h : i < s.size) : g s i = s[i].toNat := by simp [g, bt, h]
theorem g_out {s : ByteArray} {i : Nat} (h : s.size ≤ i) : g s i = 0 := by simp [g, bt, show ¬ i < s.size by omega]
theorem g_lt (s : ByteArray) (i : Nat) : g s i < 256 := (bt s i).toNat_lt
theorem lt_of_g {s : ByteArray} {i : Nat} (h : g s i ≠ 0) : i < s.size := by
  by_cases hl : i < s.size
  · exact hl
  · exact absurd (g_out (by omega)) h

/-- The scanner: its state, whole statements, letters, arguments. -/
structure Sc where
  st : Nat
  n : Nat
  le : Nat
  ar : Nat

def nx (x : Sc) (c : Nat) : Option Sc :=
  if x.st = 0 then
    if x.n = 16 then none else if c = 63 then some ⟨2, x.n, x.le, x.ar⟩ else if isL c then some ⟨1, x.n, x.le, x.ar⟩ else none
  else if x.st = 1 then (if c = 61 then some ⟨2, x.n, x.le, x.ar⟩ else none)
  else if x.st = 2 then (if isL c then some ⟨3, x.n, 1, x.ar⟩ else none)
  else if x.st = 3 then (if isL c && decide (x.le < 6) then some ⟨3, x.n, x.le + 1, x.ar⟩ else if c = 40 then some ⟨4, x.n, x.le, 0⟩ else none)
  else if x.st = 4 then (if isL c then some ⟨5, x.n, x.le, x.ar + 1⟩ else if c = 41 then some ⟨7, x.n, x.le, x.ar⟩ else none)
  else if x.st = 5 then (if c = 41 then some ⟨7, x.n, x.le, x.ar⟩ else if c = 44 ∧ x.ar < 4 then some ⟨6, x.n, x.le, x.ar⟩ else none)
  else if x.st = 6 then (if isL c then some ⟨5, x.n, x.le, x.ar + 1⟩ else none)
  else if x.st = 7 then (if c = 59 then some ⟨0, x.n + 1, x.le, x.ar⟩ else none)
  else none

def stA (s : ByteArray) : Nat → Option Sc
  | 0 => some ⟨0, 0, 0, 0⟩
  | i + 1 => (stA s i).bind fun x => nx x (g s i)

theorem stA_succ {s : ByteArray} {i : Nat} {x y : Sc} (h : stA s i = some x) (hn : nx x (g s i) = some y) : stA s (i + 1) = some y := by simp [stA, h, hn]

theorem stA_back {s : ByteArray} : ∀ {i : Nat} {y : Sc}, stA s (i + 1) = some y → ∃ x, stA s i = some x ∧ nx x (g s i) = some y := by
  intro i y h
  simp only [stA] at h
  cases hx : stA s i with
  | none => simp [hx] at h
  | some x => exact ⟨x, rfl, by simpa [hx] using h⟩

theorem stA_le {s : ByteArray} : ∀ {d i : Nat} {y : Sc}, stA s (i + d) = some y → ∃ x, stA s i = some x := by
  intro d
  induction d with
  | zero => intro i y h; exact ⟨y, h⟩
  | succ d ih => intro i y h; obtain ⟨x, hx, _⟩ := stA_back (i := i + d) h; exact ih hx

/-- The scanner stands at k and can go no further. -/
def Stuck (s : ByteArray) (k : Nat) : Prop := ∃ x, stA s k = some x ∧ ((k < s.size ∧ nx x (g s k) = none) ∨ (k = s.size ∧ x.st ≠ 0))
/-- The text is a source. -/
def Whole (s : ByteArray) : Prop := ∃ x, stA s s.size = some x ∧ x.st = 0

theorem Stuck.le {s : ByteArray} {k : Nat} (h : Stuck s k) : k ≤ s.size := by
  obtain ⟨x, _, h | h⟩ := h <;> omega

theorem Stuck.not_lt {s : ByteArray} {p q : Nat} (h : Stuck s p) {y : Sc} (hq : stA s q = some y) (hs : q ≤ s.size) : q ≤ p := by
  obtain ⟨x, hx, ⟨hlt, hn⟩ | ⟨he, _⟩⟩ := h
  · by_cases hle : q ≤ p
    · exact hle
    · obtain ⟨d, rfl⟩ : ∃ d, q = p + 1 + d := ⟨q - (p + 1), by omega⟩
      obtain ⟨z, hz⟩ := stA_le hq
      simp [stA, hx, hn] at hz
  · omega

theorem Stuck.unique {s : ByteArray} {p q : Nat} (h : Stuck s p) (k : Stuck s q) : p = q := by
  have h1 := h; have k1 := k
  obtain ⟨x, hx, _⟩ := h
  obtain ⟨y, hy, _⟩ := k
  have a := h1.not_lt hy k1.le
  have b := k1.not_lt hx h1.le
  omega

theorem Stuck.not_whole {s : ByteArray} {p : Nat} (h : Stuck s p) (k : Whole s) : False := by
  obtain ⟨y, hy, h0⟩ := k
  have a := h.not_lt hy (Nat.le_refl _)
  have hp : p = s.size := by have := h.le; omega
  subst hp
  obtain ⟨x, hx, ⟨hlt, _⟩ | ⟨_, hn⟩⟩ := h
  · omega
  · rw [hy] at hx; cases hx; exact hn h0

/-- A statement. -/
structure St where
  name : Nat
  word : List UInt8
  args : List UInt8

/-- The gathering of statements. -/
structure Ga where
  l : List St
  x : St
  ins : Bool

def gaStep (s : ByteArray) (i : Nat) (a : Ga) : Ga :=
  if g s i = 61 then ⟨a.l, ⟨g s (i - 1), [], a.x.args⟩, a.ins⟩
  else if g s i = 63 then ⟨a.l, ⟨a.x.name, [], a.x.args⟩, a.ins⟩
  else if g s i = 40 then ⟨a.l, a.x, true⟩
  else if g s i = 41 then ⟨a.l, a.x, false⟩
  else if g s i = 59 then ⟨a.l ++ [a.x], ⟨0, [], []⟩, a.ins⟩
  else if isL (g s i) then
    if a.ins then ⟨a.l, ⟨a.x.name, a.x.word, a.x.args ++ [bt s i]⟩, a.ins⟩ else ⟨a.l, ⟨a.x.name, a.x.word ++ [bt s i], a.x.args⟩, a.ins⟩
  else a

def gaA (s : ByteArray) : Nat → Ga
  | 0 => ⟨[], ⟨0, [], []⟩, false⟩
  | i + 1 => gaStep s i (gaA s i)

/-- Both stand so at k. -/
def At (s : ByteArray) (k st n le ar : Nat) (l : List St) (x : St) (ins : Bool) : Prop := stA s k = some ⟨st, n, le, ar⟩ ∧ gaA s k = ⟨l, x, ins⟩

theorem isL_iff (c : Nat) : isL c = true ↔ 97 ≤ c ∧ c ≤ 122 := by simp [isL]

section steps
variable {s : ByteArray} {k n le ar : Nat} {l : List St} {x : St} {ins : Bool}
theorem at_start (s : ByteArray) : At s 0 0 0 0 0 [] ⟨0, [], []⟩ false := ⟨rfl, rfl⟩
theorem at_ask (h : At s k 0 n le ar l x ins) (hn : n ≠ 16) (hc : g s k = 63) : At s (k + 1) 2 n le ar l ⟨x.name, [], x.args⟩ ins :=
  ⟨stA_succ h.1 (by simp [nx, hn, hc]), by simp [gaA, h.2, gaStep, hc]⟩
theorem at_name (h : At s k 0 n le ar l x false) (hn : n ≠ 16) (hc : isL (g s k) = true) : At s (k + 1) 1 n le ar l ⟨x.name, x.word ++ [bt s k], x.args⟩ false := by
  have hl := (isL_iff _).1 hc
  exact ⟨stA_succ h.1 (by simp [nx, hn, hc, show g s k ≠ 63 by omega]), by
    simp [gaA, h.2, gaStep, hc, show g s k ≠ 61 by omega, show g s k ≠ 63 by omega, show g s k ≠ 40 by omega, show g s k ≠ 41 by omega, show g s k ≠ 59 by omega]⟩
theorem at_equal (h : At s k 1 n le ar l x ins) (hc : g s k = 61) : At s (k + 1) 2 n le ar l ⟨g s (k - 1), [], x.args⟩ ins :=
  ⟨stA_succ h.1 (by simp [nx, hc]), by simp [gaA, h.2, gaStep, hc]⟩
theorem at_first (h : At s k 2 n le ar l x false) (hc : isL (g s k) = true) : At s (k + 1) 3 n 1 ar l ⟨x.name, x.word ++ [bt s k], x.args⟩ false := by
  have hl := (isL_iff _).1 hc
  exact ⟨stA_succ h.1 (by simp [nx, hc]), by
    simp [gaA, h.2, gaStep, hc, show g s k ≠ 61 by omega, show g s k ≠ 63 by omega, show g s k ≠ 40 by omega, show g s k ≠ 41 by omega, show g s k ≠ 59 by omega]⟩
theorem at_more (h : At s k 3 n le ar l x false) (hle : le < 6) (hc : isL (g s k) = true) : At s (k + 1) 3 n (le + 1) ar l ⟨x.name, x.word ++ [bt s k], x.args⟩ false := by
  have hl := (isL_iff _).1 hc
  exact ⟨stA_succ h.1 (by simp [nx, hc, hle]), by
    simp [gaA, h.2, gaStep, hc, show g s k ≠ 61 by omega, show g s k ≠ 63 by omega, show g s k ≠ 40 by omega, show g s k ≠ 41 by omega, show g s k ≠ 59 by omega]⟩
theorem at_open (h : At s k 3 n le ar l x ins) (hc : g s k = 40) : At s (k + 1) 4 n le 0 l x true :=
  ⟨stA_succ h.1 (by simp [nx, hc, isL]), by simp [gaA, h.2, gaStep, hc]⟩
theorem at_none (h : At s k 4 n le ar l x ins) (hc : g s k = 41) : At s (k + 1) 7 n le ar l x false :=
  ⟨stA_succ h.1 (by simp [nx, hc, isL]), by simp [gaA, h.2, gaStep, hc]⟩
theorem at_arg (h : At s k 4 n le ar l x true ∨ At s k 6 n le ar l x true) (hc : isL (g s k) = true) : At s (k + 1) 5 n le (ar + 1) l ⟨x.name, x.word, x.args ++ [bt s k]⟩ true := by
  have hl := (isL_iff _).1 hc
  rcases h with h | h <;>
  exact ⟨stA_succ h.1 (by simp [nx, hc]), by
    simp [gaA, h.2, gaStep, hc, show g s k ≠ 61 by omega, show g s k ≠ 63 by omega, show g s k ≠ 40 by omega, show g s k ≠ 41 by omega, show g s k ≠ 59 by omega]⟩
theorem at_shut (h : At s k 5 n le ar l x ins) (hc : g s k = 41) : At s (k + 1) 7 n le ar l x false :=
  ⟨stA_succ h.1 (by simp [nx, hc]), by simp [gaA, h.2, gaStep, hc]⟩
theorem at_comma (h : At s k 5 n le ar l x ins) (har : ar < 4) (hc : g s k = 44) : At s (k + 1) 6 n le ar l x ins :=
  ⟨stA_succ h.1 (by simp [nx, hc, har]), by simp [gaA, h.2, gaStep, hc, isL]⟩
theorem at_end (h : At s k 7 n le ar l x ins) (hc : g s k = 59) : At s (k + 1) 0 (n + 1) le ar (l ++ [x]) ⟨0, [], []⟩ ins :=
  ⟨stA_succ h.1 (by simp [nx, hc]), by simp [gaA, h.2, gaStep, hc]⟩

theorem stuck_of {st : Nat} (h : At s k st n le ar l x ins) (hk : k ≤ s.size) (h0 : st ≠ 0 ∨ k < s.size) (hn : nx ⟨st, n, le, ar⟩ (g s k) = none) : Stuck s k := by
  refine ⟨_, h.1, ?_⟩
  by_cases hlt : k < s.size
  · exact .inl ⟨hlt, hn⟩
  · exact .inr ⟨by omega, by rcases h0 with h0 | h0 <;> first | exact h0 | omega⟩
end steps

/-- Names: which of the first n gave it. -/
def giv (l : List St) (name : Nat) : Option Nat := l.findIdx? (fun x => decide (x.name = name))

end Go.Proofs.YtmnfndpbblpjiaaDoor.Pu

/- Words on memory that all the walks share: which blocks a call may have turned, how a reader, a sentence lie. -/
namespace Go.Proofs.YtmnfndpbblpjiaaDoor
open Go.RowKit

/-- Of the blocks that were there at most those of p have turned. -/
structure Mod (p : Nat → Prop) (w w' : World) : Prop where
  os : w'.os = w.os
  tape : w'.tape = w.tape
  output : w'.output = w.output
  size : w.heap.size ≤ w'.heap.size
  block : ∀ k, k < w.heap.size → ¬ p k → w'.heap[k]? = w.heap[k]?

section
variable {p q : Nat → Prop} {a b c w : World}
theorem Mod.refl (p : Nat → Prop) (w : World) : Mod p w w := ⟨rfl, rfl, rfl, Nat.le_refl _, fun _ _ _ => rfl⟩
theorem Mod.trans (h : Mod p a b) (k : Mod p b c) : Mod p a c :=
  ⟨k.os.trans h.os, k.tape.trans h.tape, k.output.trans h.output, Nat.le_trans h.size k.size, fun i hi hp => (k.block i (Nat.lt_of_lt_of_le hi h.size) hp).trans (h.block i hi hp)⟩
theorem Mod.mono (h : Mod p a b) (hp : ∀ k, k < a.heap.size → p k → q k) : Mod q a b := ⟨h.os, h.tape, h.output, h.size, fun k hk hn => h.block k hk fun hh => hn (hp k hk hh)⟩
theorem Mod.drewN (h : Mod p a b) (n : Nat) : Mod p a (b.drewN n) := ⟨h.os, h.tape, h.output, by simpa using h.size, fun k hk hp => h.block k hk hp⟩
theorem Mod.drew (h : Mod p a b) : Mod p a b.drew := ⟨h.os, h.tape, h.output, h.size, h.block⟩
theorem Mod.alloc (h : Mod p a b) (o : Obj) : Mod p a (b.alloc o) :=
  ⟨h.os, h.tape, h.output, by have := h.size; simp; omega, fun k hk hp => (Below.heap_alloc _ _ _ (Nat.lt_of_lt_of_le hk h.size)).trans (h.block k hk hp)⟩
theorem Mod.setCell (h : Mod p a b) (x : Addr) (v : Value) (hx : x.block < a.heap.size → p x.block) : Mod p a (b.setCell x v) := by
  refine ⟨h.os, h.tape, h.output, by simpa using h.size, fun k hk hp => ?_⟩
  rw [Below.heap_setCell _ _ _ _ (fun e => hp (by rw [e]; exact hx (by omega)))]
  exact h.block k hk hp
theorem Mod.grown {row : Option Nat} (h : Mod p a b) (hg : b.grownBy c row) (hr : ∀ k, row = some k → k < a.heap.size → p k) : Mod p a c :=
  ⟨hg.os.trans h.os, hg.tape.trans h.tape, hg.output.trans h.output, Nat.le_trans h.size hg.size, fun k hk hp => (hg.block k (Nat.lt_of_lt_of_le hk h.size) (fun e => hp (hr k e.symm hk))).trans (h.block k hk hp)⟩
theorem Mod.below (h : Mod (fun _ => False) a b) : Below a.heap.size a b := ⟨h.os, h.tape, h.output, h.size, fun k hk => h.block k hk (fun f => f)⟩
theorem Mod.below_of {B : Nat} (h : Mod p a b) (hp : ∀ k, p k → B ≤ k) (hB : B ≤ a.heap.size) : Below B a b :=
  ⟨h.os, h.tape, h.output, h.size, fun k hk => h.block k (by omega) (fun f => by have := hp k f; omega)⟩
theorem Mod.keep {o : Obj} {k : Nat} (h : Mod p a b) (hk : a.heap[k]? = some o) (hp : ¬ p k) : b.heap[k]? = some o :=
  (h.block k (lt_of_block hk) hp).trans hk
theorem Mod.same (n : Nat) (p : Nat → Prop) (w : World) : Mod p w (w.drewN n) := (Mod.refl p w).drewN n
end

abbrev S (l : List UInt8) : Value := .string ⟨l.toArray⟩

/-- A reader at k of the text s. -/
def Rd (w : World) (rb : Nat) (s : ByteArray) (k : Nat) : Prop := w.heap[rb]? = some (.cells #[.string s, .int .i64 k] 63 (0, 0))
section
variable {w : World} {rb sb k n : Nat} {s : ByteArray} {wd : List UInt8} {av : Value} {wt : Int}
theorem Rd.c0 (h : Rd w rb s k) : w.cell? ⟨rb, 0, none⟩ = some (.string s) := by unfold Rd at h; simp [World.cell?, h]
theorem Rd.c1 (h : Rd w rb s k) : w.cell? ⟨rb, 1, none⟩ = some (.int .i64 k) := by unfold Rd at h; simp [World.cell?, h]
theorem Rd.f1 (h : Rd w rb s k) : w.frozen? ⟨rb, 1, none⟩ = false := by unfold Rd at h; simp [World.frozen?, h]
theorem Rd.lt (h : Rd w rb s k) : rb < w.heap.size := lt_of_block h
theorem Rd.set (h : Rd w rb s k) (j : Nat) : Rd (w.setCell ⟨rb, 1, none⟩ (.int .i64 j)) rb s j := by
  unfold Rd at *
  simp [World.setCell, Array.getElem?_modify, h]
theorem Rd.drewN (h : Rd w rb s k) (j : Nat) : Rd (w.drewN j) rb s k := by unfold Rd at *; simpa using h
theorem Rd.keep {p : Nat → Prop} {w' : World} (h : Rd w rb s k) (hm : Mod p w w') (hp : ¬ p rb) : Rd w' rb s k := hm.keep h hp
end

theorem beq_t {c m : Nat} (h : c = m) : ((c : Int) == (m : Int)) = true := by subst h; simp
theorem beq_f {c m : Nat} (h : ¬ c = m) : ((c : Int) == (m : Int)) = false := by
  rw [beq_eq_false_iff_ne]; omega
/-- Bytes as cells. -/
def bvs (l : List UInt8) : List Value := l.map fun c => .int .u8 (c.toNat : Int)
theorem bvs_len (l : List UInt8) : (bvs l).length = l.length := by simp [bvs]
theorem bvs_snoc (l : List UInt8) (c : UInt8) : bvs l ++ [.int .u8 (c.toNat : Int)] = bvs (l ++ [c]) := by simp [bvs]
def sliceLen : Value → Nat
  | .slice _ n _ => n
  | _ => 0

section
variable {w w' : World} {base : Nat} {e : TypeId} {size : Nat} {v : Value} {n : Nat} {xs : List Value}
theorem owns_form (h : w.ownsRow base e size v n xs) : ∃ ao cap, v = .slice ao n cap ∧ (ao = none → n = 0 ∧ cap = 0) := by
  obtain ⟨_, ⟨rfl, rfl⟩ | ⟨g, cap, cur, rfl, _⟩⟩ := h
  · exact ⟨none, 0, rfl, fun _ => ⟨rfl, rfl⟩⟩
  · exact ⟨_, cap, rfl, fun h => by cases h⟩
theorem owns_mod {p : Nat → Prop} (h : w.ownsRow base e size v n xs) (hm : Mod p w w') (hp : ∀ g, base ≤ g → p g → False) : w'.ownsRow base e size v n xs := by
  obtain ⟨hl, ⟨rfl, rfl⟩ | ⟨g, cap, cur, rfl, hb, hg, h1, h2, h3, h4⟩⟩ := h
  · exact ⟨hl, .inl ⟨rfl, rfl⟩⟩
  · exact ⟨hl, .inr ⟨g, cap, cur, rfl, hb, hm.keep hg (hp g hb), h1, h2, h3, h4⟩⟩
theorem owns_mod' {p : Nat → Prop} (h : w.ownsRow base e size v n xs) (hm : Mod p w w') (hp : ∀ g, v.ownBlock = some g → p g → False) : w'.ownsRow base e size v n xs := by
  obtain ⟨hl, ⟨rfl, rfl⟩ | ⟨g, cap, cur, rfl, hb, hg, h1, h2, h3, h4⟩⟩ := h
  · exact ⟨hl, .inl ⟨rfl, rfl⟩⟩
  · exact ⟨hl, .inr ⟨g, cap, cur, rfl, hb, hm.keep hg (hp g rfl), h1, h2, h3, h4⟩⟩
theorem owns_drewN (h : w.ownsRow base e size v n xs) (j : Nat) : (w.drewN j).ownsRow base e size v n xs := owns_mod h (Mod.same j (fun _ => False) w) (fun _ _ f => f)
theorem owns_base {base' : Nat} (h : w.ownsRow base e size v n xs) (hb : base' ≤ base) : w.ownsRow base' e size v n xs := by
  obtain ⟨hl, ⟨rfl, rfl⟩ | ⟨g, cap, cur, rfl, hb', hg⟩⟩ := h
  · exact ⟨hl, .inl ⟨rfl, rfl⟩⟩
  · exact ⟨hl, .inr ⟨g, cap, cur, rfl, by omega, hg⟩⟩
theorem owns_cell {ao : Option Addr} {cap : Nat} (h : w.ownsRow base e size (.slice ao n cap) n xs) {j : Nat} (hj : j < n * size) : ∃ gb, ao = some ⟨gb, 0, none⟩ ∧ w.cell? ⟨gb, j, none⟩ = xs[j]? := by
  have h' := h
  obtain ⟨hl, ⟨he, rfl⟩ | ⟨gb, cap', cur, he, hb', hg⟩⟩ := h
  · simp at hj
  · cases he
    exact ⟨gb, rfl, h'.cellAt j hj⟩
theorem convert_owned {P : Program} {src dst : TypeId} {l : List UInt8} (h : w.ownsRow base e 1 v n (bvs l)) (hn : n = l.length) (hs : P.underlying src = some (.slice e)) (he : P.underlying e = some (.int .u8)) (hd : P.underlying dst = some .string) :
    (convert src dst v).run P w = .ok (S l) w := by
  subst hn
  have h' := h
  obtain ⟨hl, ⟨rfl, h0⟩ | ⟨gb, cap, cur, rfl, hb', hg⟩⟩ := h
  · have : l = [] := List.eq_nil_of_length_eq_zero h0
    subst this
    exact run_convert_bytes_nil w src e hs he 0 0 dst hd
  · refine run_convert_bytes_back w src dst e _ cap l hs he hd fun j hj => ?_
    have hc := h'.cellAt j (by omega)
    have ha : (⟨gb, 0, none⟩ : Addr).add j = ⟨gb, j, none⟩ := by
      unfold Addr.add
      by_cases h0 : j = 0
      · subst h0; simp
      · simp [h0]
    rw [ha, hc]
    simp [bvs, hj]
end

end Go.Proofs.YtmnfndpbblpjiaaDoor

/- Whole numbers in limbs of nine decimal digits: plain. -/
namespace Go.Proofs.YtmnfndpbblpjiaaDoor.Pu

def v9 : List Nat → Nat
  | [] => 0
  | d :: l => d + 1000000000 * v9 l
def D9 (l : List Nat) : Prop := ∀ d ∈ l, d < 1000000000
def T9 (l : List Nat) : Prop := ∀ d, l.getLast? = some d → d ≠ 0
theorem v9_append (a b : List Nat) : v9 (a ++ b) = v9 a + 1000000000 ^ a.length * v9 b := by
  induction a with
  | nil => simp [v9]
  | cons d a ih =>
    simp only [List.cons_append, v9, ih, List.length_cons, Nat.pow_succ, Nat.mul_add]
    rw [Nat.add_assoc]
    congr 2
    rw [← Nat.mul_assoc, Nat.mul_comm (1000000000 : Nat) (1000000000 ^ a.length)]
theorem v9_lt {a : List Nat} (h : D9 a) : v9 a < 1000000000 ^ a.length := by
  induction a with
  | nil => simp [v9]
  | cons d a ih =>
    have h1 := h d (by simp)
    have h2 := ih (fun x hx => h x (by simp [hx]))
    simp only [v9, List.length_cons, Nat.pow_succ]
    omega
theorem v9_zeros (n : Nat) : v9 (List.replicate n 0) = 0 := by
  induction n with
  | zero => rfl
  | succ n ih => simp [List.replicate_succ, v9, ih]
theorem v9_top {a : List Nat} (ht : T9 a) (hn : a ≠ []) : 1000000000 ^ (a.length - 1) ≤ v9 a := by
  obtain ⟨b, x, rfl⟩ : ∃ b x, a = b ++ [x] := ⟨a.dropLast, a.getLast hn, (List.dropLast_concat_getLast hn).symm⟩
  have hx : x ≠ 0 := ht x (by simp)
  rw [v9_append]
  simp only [v9, List.length_append, List.length_cons, List.length_nil]
  have : 1000000000 ^ b.length * 1 ≤ 1000000000 ^ b.length * (x + 1000000000 * 0) := Nat.mul_le_mul_left _ (by omega)
  simp at this ⊢
  omega
theorem v9_zero_top {l : List Nat} : v9 (l ++ [0]) = v9 l := by rw [v9_append]; simp [v9]
theorem v9_set (l : List Nat) (k x : Nat) (hk : k < l.length) : v9 (l.set k x) + 1000000000 ^ k * l[k] = v9 l + 1000000000 ^ k * x := by
  induction l generalizing k with
  | nil => simp at hk
  | cons d l ih =>
    cases k with
    | zero => simp [v9]; omega
    | succ k =>
      have hkl : k < l.length := by simpa using hk
      have := ih k hkl
      simp only [List.set_cons_succ, v9, List.getElem_cons_succ, Nat.pow_succ]
      have e1 : 1000000000 ^ k * 1000000000 * l[k] = 1000000000 * (1000000000 ^ k * l[k]) := by rw [Nat.mul_comm (1000000000 ^ k) 1000000000, Nat.mul_assoc]
      have e2 : 1000000000 ^ k * 1000000000 * x = 1000000000 * (1000000000 ^ k * x) := by rw [Nat.mul_comm (1000000000 ^ k) 1000000000, Nat.mul_assoc]
      rw [e1, e2]
      omega
theorem v9_take (l : List Nat) (k : Nat) (hk : k < l.length) : v9 (l.take (k + 1)) = v9 (l.take k) + 1000000000 ^ k * l[k] := by
  rw [List.take_succ_eq_append_getElem hk, v9_append, List.length_take, Nat.min_eq_left (by omega)]
  simp [v9]
theorem v9_split (l : List Nat) (k : Nat) (hk : k ≤ l.length) : v9 l = v9 (l.take k) + 1000000000 ^ k * v9 (l.drop k) := by
  have h := v9_append (l.take k) (l.drop k)
  rw [List.take_append_drop, List.length_take, Nat.min_eq_left hk] at h
  exact h
/-- A sign and limbs. -/
def num9 (neg : Bool) (l : List Nat) : Int := if neg then -(v9 l : Int) else (v9 l : Int)
def C9 (neg : Bool) (l : List Nat) : Prop := D9 l ∧ T9 l ∧ (l = [] → neg = false)
theorem v9_nil {l : List Nat} (ht : T9 l) (h : v9 l = 0) : l = [] := by
  cases hl : l with
  | nil => rfl
  | cons d q =>
    have h1 := v9_top ht (by rw [hl]; simp)
    have h2 : 0 < 1000000000 ^ (l.length - 1) := Nat.pow_pos (by omega)
    omega
end Go.Proofs.YtmnfndpbblpjiaaDoor.Pu

/- Limbs: a row added; carries; noughts on top. -/
namespace Go.Proofs.YtmnfndpbblpjiaaDoor.Pu

def rowTo (L : List Nat) (a : Nat) (b : List Nat) (f : Nat) : Nat → List Nat
  | 0 => L
  | k + 1 => (rowTo L a b f k).set (a + k) ((rowTo L a b f k)[a + k]?.getD 0 + b[k]?.getD 0 * f)
theorem rowTo_len (L : List Nat) (a : Nat) (b : List Nat) (f k : Nat) : (rowTo L a b f k).length = L.length := by
  induction k with
  | zero => rfl
  | succ k ih => simp [rowTo, ih]
theorem rowTo_far (L : List Nat) (a : Nat) (b : List Nat) (f k i : Nat) (hi : a + k ≤ i) : (rowTo L a b f k)[i]? = L[i]? := by
  induction k with
  | zero => rfl
  | succ k ih => simp only [rowTo]; rw [List.getElem?_set, if_neg (by omega)]; exact ih (by omega)
theorem rowTo_val (L : List Nat) (a : Nat) (b : List Nat) (f k : Nat) (hk : k ≤ b.length) (ha : a + b.length ≤ L.length) : v9 (rowTo L a b f k) = v9 L + 1000000000 ^ a * (f * v9 (b.take k)) := by
  induction k with
  | zero => simp [rowTo, v9]
  | succ k ih =>
    have hkb : k < b.length := by omega
    have hl : a + k < (rowTo L a b f k).length := by rw [rowTo_len]; omega
    have hs := v9_set (rowTo L a b f k) (a + k) ((rowTo L a b f k)[a + k] + b[k] * f) hl
    have e : rowTo L a b f (k + 1) = (rowTo L a b f k).set (a + k) ((rowTo L a b f k)[a + k] + b[k] * f) := by simp [rowTo, hl, hkb]
    rw [e, v9_take b k hkb]
    rw [ih (by omega), Nat.mul_add (1000000000 ^ (a + k))] at hs
    have e2 : 1000000000 ^ a * (f * (v9 (b.take k) + 1000000000 ^ k * b[k])) = 1000000000 ^ a * (f * v9 (b.take k)) + 1000000000 ^ (a + k) * (b[k] * f) := by
      rw [Nat.mul_add, Nat.mul_add, Nat.pow_add]
      congr 1
      rw [Nat.mul_comm (b[k]) f, Nat.mul_left_comm f, Nat.mul_assoc]
    rw [e2]
    omega
def Bd (L : List Nat) (M : Nat) : Prop := ∀ x ∈ L, x ≤ M
theorem rowTo_bd {L : List Nat} {a : Nat} {b : List Nat} {f M N : Nat} (hL : Bd L M) (hb : Bd b N) (k : Nat) : Bd (rowTo L a b f k) (M + N * f) := by
  have key : ∀ (i x : Nat), (rowTo L a b f k)[i]? = some x → x ≤ M + N * f := by
    induction k with
    | zero => intro i x hx; have := hL x (List.mem_of_getElem? hx); omega
    | succ k ih =>
      intro i x hx
      simp only [rowTo] at hx
      rw [List.getElem?_set] at hx
      by_cases e : a + k = i
      · rw [if_pos e] at hx
        split at hx
        · simp at hx
          rw [rowTo_far L a b f k (a + k) (Nat.le_refl _)] at hx
          have h1 : L[a + k]?.getD 0 ≤ M := by
            cases h : L[a + k]? with
            | none => simp
            | some y => simpa using hL y (List.mem_of_getElem? h)
          have h2 : b[k]?.getD 0 ≤ N := by
            cases h : b[k]? with
            | none => simp
            | some y => simpa using hb y (List.mem_of_getElem? h)
          have h3 : b[k]?.getD 0 * f ≤ N * f := Nat.mul_le_mul_right _ h2
          omega
        · cases hx
      · rw [if_neg e] at hx
        exact ih i x hx
  intro x hx
  obtain ⟨i, hi⟩ := List.getElem?_of_mem hx
  exact key i x hi
theorem Bd.at {L : List Nat} {M k : Nat} (h : Bd L M) (hk : k < L.length) : L[k] ≤ M := h _ (List.getElem_mem hk)
theorem D9.bd {L : List Nat} (h : D9 L) : Bd L 999999999 := fun x hx => by have := h x hx; omega
theorem Bd.d9 {L : List Nat} (h : Bd L 999999999) : D9 L := fun x hx => by have := h x hx; omega

/-- Carries: the limbs ahead of k, and what is carried on. -/
def carTo (L : List Nat) : Nat → List Nat × Nat
  | 0 => (L, 0)
  | k + 1 => let c := carTo L k; (c.1.set k ((c.1[k]?.getD 0 + c.2) % 1000000000), (c.1[k]?.getD 0 + c.2) / 1000000000)
theorem carTo_len (L : List Nat) (k : Nat) : (carTo L k).1.length = L.length := by
  induction k with
  | zero => rfl
  | succ k ih => simp [carTo, ih]
theorem carTo_far (L : List Nat) (k i : Nat) (hi : k ≤ i) : (carTo L k).1[i]? = L[i]? := by
  induction k with
  | zero => rfl
  | succ k ih => simp only [carTo]; rw [List.getElem?_set, if_neg (by omega)]; exact ih (by omega)
theorem carTo_small (L : List Nat) (k i x : Nat) (hi : i < k) (hx : (carTo L k).1[i]? = some x) : x < 1000000000 := by
  induction k generalizing x with
  | zero => omega
  | succ k ih =>
    simp only [carTo] at hx
    rw [List.getElem?_set] at hx
    by_cases e : k = i
    · rw [if_pos e] at hx
      split at hx
      · simp at hx; rw [← hx]; exact Nat.mod_lt _ (by omega)
      · cases hx
    · rw [if_neg e] at hx
      exact ih x (by omega) hx
theorem carTo_val (L : List Nat) (k : Nat) (hk : k ≤ L.length) : v9 (carTo L k).1 + 1000000000 ^ k * (carTo L k).2 = v9 L := by
  induction k with
  | zero => simp [carTo]
  | succ k ih =>
    have hl : k < (carTo L k).1.length := by rw [carTo_len]; omega
    have ih' := ih (by omega)
    have hs := v9_set (carTo L k).1 k (((carTo L k).1[k] + (carTo L k).2) % 1000000000) hl
    have e : carTo L (k + 1) = ((carTo L k).1.set k (((carTo L k).1[k] + (carTo L k).2) % 1000000000), ((carTo L k).1[k] + (carTo L k).2) / 1000000000) := by simp [carTo, hl]
    rw [e]
    generalize (carTo L k).1 = A at *
    generalize (carTo L k).2 = c at *
    have hd := Nat.div_add_mod (A[k] + c) 1000000000
    generalize (A[k] + c) / 1000000000 = q at *
    generalize (A[k] + c) % 1000000000 = r at *
    simp only
    have e1 : 1000000000 ^ (k + 1) * q = 1000000000 ^ k * (1000000000 * q) := by rw [Nat.pow_succ, Nat.mul_assoc]
    have e2 : 1000000000 ^ k * (1000000000 * q) + 1000000000 ^ k * r = 1000000000 ^ k * A[k] + 1000000000 ^ k * c := by rw [← Nat.mul_add, hd, Nat.mul_add]
    rw [e1]
    omega
theorem carTo_over {L : List Nat} {M : Nat} (hL : Bd L M) (hM : M ≤ 17000000000000000000) (k : Nat) : (carTo L k).2 ≤ 18000000000 := by
  induction k with
  | zero => simp [carTo]
  | succ k ih =>
    simp only [carTo]
    have : (carTo L k).1[k]?.getD 0 ≤ M := by
      rw [carTo_far L k k (Nat.le_refl _)]
      cases h : L[k]? with
      | none => simp
      | some y => simpa using hL y (List.mem_of_getElem? h)
    omega
theorem car_end {L : List Nat} {k : Nat} (hk : k = L.length) (hv : v9 L < 1000000000 ^ L.length) : D9 (carTo L k).1 ∧ v9 (carTo L k).1 = v9 L := by
  subst hk
  have h := carTo_val L L.length (Nat.le_refl _)
  have h0 : (carTo L L.length).2 = 0 := by
    refine Nat.eq_zero_of_not_pos fun hp => ?_
    have : 1000000000 ^ L.length * 1 ≤ 1000000000 ^ L.length * (carTo L L.length).2 := Nat.mul_le_mul_left _ hp
    omega
  rw [h0] at h
  refine ⟨fun d hd => ?_, by omega⟩
  obtain ⟨i, hi⟩ := List.getElem?_of_mem hd
  have hil := (List.getElem?_eq_some_iff.1 hi).1
  rw [carTo_len] at hil
  exact carTo_small L L.length i d hil hi
/-- Noughts on top. -/
theorem strip9 (l : List Nat) (n : Nat) (hn : n ≤ l.length) (hz : v9 (l.take n) = v9 l) (ht : n = 0 ∨ ∃ h : n - 1 < l.length, l[n - 1] ≠ 0) : T9 (l.take n) := by
  intro d hd
  rcases ht with rfl | ⟨h, hne⟩
  · simp at hd
  · by_cases h0 : n = 0
    · subst h0; simp at hd
    · rw [List.getLast?_take, if_neg h0] at hd
      rw [List.getElem?_eq_getElem h] at hd
      simp at hd
      rw [← hd]; exact hne
end Go.Proofs.YtmnfndpbblpjiaaDoor.Pu

/- The program's rows of limbs: addRow. -/
namespace Go.Proofs.YtmnfndpbblpjiaaDoor
open Go.RowKit Pu

def uvs (l : List Nat) : List Value := l.map fun (n : Nat) => Value.int .u64 (n : Int)
theorem uvs_set (d : List Nat) (k x : Nat) : (uvs d).set k (.int .u64 (x : Int)) = uvs (d.set k x) := by simp [uvs, List.map_set]
theorem uvs_cell {w : World} {base n : Nat} {ao : Option Addr} {cap : Nat} {l : List Nat} (h : w.ownsRow base 82 1 (.slice ao n cap) n (uvs l)) (hn : n = l.length) {k : Nat} (hk : k < l.length) :
    ∃ gb, ao = some ⟨gb, 0, none⟩ ∧ w.cell? ⟨gb, k, none⟩ = some (.int .u64 (l[k] : Int)) := by
  subst hn
  obtain ⟨gb, rfl, hc⟩ := owns_cell h (j := k) (by omega)
  exact ⟨gb, rfl, by rw [hc]; simp [uvs, hk]⟩
/-- A tally in memory. -/
def Tl (w : World) (tb : Nat) (v : Value) : Prop := w.heap[tb]? = some (.cells #[v] 107 (0, 0))
theorem Tl.c0 {w : World} {tb : Nat} {v : Value} (h : Tl w tb v) : w.cell? ⟨tb, 0, none⟩ = some v := by unfold Tl at h; simp [World.cell?, h]
theorem Tl.lt {w : World} {tb : Nat} {v : Value} (h : Tl w tb v) : tb < w.heap.size := lt_of_block h
theorem Tl.keep {p : Nat → Prop} {w w' : World} {tb : Nat} {v : Value} (h : Tl w tb v) (hm : Mod p w w') (hp : ¬ p tb) : Tl w' tb v := hm.keep h hp
theorem wrap_u64 {n : Int} (h0 : 0 ≤ n) (h : n < 18446744073709551616) : IntKind.u64.wrap n = n := by
  simp [IntKind.wrap, IntKind.signed, IntKind.bits]; omega

set_option maxHeartbeats 1600000 in
set_option maxRecDepth 4000 in
theorem addrow_any (tb gt tcap : Nat) (bv : Value) (L b : List Nat) (a f M base bbase : Nat) (w : World) (hT : Tl w tb (.slice (some ⟨gt, 0, none⟩) L.length tcap)) (hL : w.ownsRow base 82 1 (.slice (some ⟨gt, 0, none⟩) L.length tcap) L.length (uvs L)) (hB : w.ownsRow bbase 82 1 bv b.length (uvs b))
    (hne : ∀ g, bv.ownBlock = some g → g ≠ gt) (hnt : tb ≠ gt) (ha : a + b.length ≤ L.length) (hl : L.length ≤ 100000) (hM : Bd L M) (hb : D9 b) (hf : f < 1000000000) (hMM : M ≤ 17000000000000000000) :
    Calls Tryd.prog 70 #[.pointer (some ⟨tb, 0, none⟩), .int .i64 a, bv, .int .u64 f] w fun e w' => e = .returned (.tuple #[]) ∧ Mod (fun q => q = gt) w w' ∧ w'.ownsRow base 82 1 (.slice (some ⟨gt, 0, none⟩) L.length tcap) L.length (uvs (rowTo L a b f b.length)) := by
  obtain ⟨bo, bcap, rfl, -⟩ := owns_form hB
  have HBd : Hid (∀ k, Bd (rowTo L a b f k) (M + 999999999 * f)) := fun k => rowTo_bd hM hb.bd k
  have HFar : Hid (∀ k, (rowTo L a b f k)[a + k]? = L[a + k]?) := fun k => rowTo_far L a b f k (a + k) (Nat.le_refl _)
  have HM : Hid (Bd L M) := hM
  have HD : Hid (D9 b) := hb
  have HRL : Hid (∀ k, (rowTo L a b f k).length = L.length) := fun k => rowTo_len L a b f k
  have HNE : Hid _ := hne
  clear hM hb hne
  go_enter Tryd.func70, Tryd.ntmps70
  go_wp2_with fail
  go_loopw [8] (fun kv wr => ∃ k : Nat, k ≤ b.length ∧ kv = .int .i64 k ∧ wr.ownsRow base 82 1 (.slice (some ⟨gt, 0, none⟩) L.length tcap) L.length (uvs (rowTo L a b f k)) ∧ Mod (fun q => q = gt) w wr) (fun kv _ => b.length - (intOf kv).toNat)
  case atStart => exact ⟨0, by omega, rfl, hL, Mod.refl _ _⟩
  case round =>
    clear hL
    obtain ⟨k, hk, rfl, hown, hm⟩ := hrel
    have t0 := (hT.keep hm hnt).c0
    by_cases hlt : k < b.length
    · have hBr := owns_mod' hB hm (fun g h1 h2 => HNE.out g h1 h2)
      obtain ⟨gb, rfl, cb⟩ := uvs_cell hBr rfl hlt
      have hak : a + k < (rowTo L a b f k).length := by rw [HRL.out]; omega
      obtain ⟨g2, hg2, ca⟩ := uvs_cell hown (HRL.out k).symm hak
      injection hg2 with hg2
      injection hg2 with hg2
      subst hg2
      have hfz := hown.frozenAt (a + k)
      have hbk : b[k] < 1000000000 := HD.out _ (List.getElem_mem hlt)
      have haL : (rowTo L a b f k)[a + k] ≤ M := by
        have h1 := HFar.out k
        rw [List.getElem?_eq_getElem hak, List.getElem?_eq_getElem (by omega)] at h1
        rw [Option.some.inj h1]
        exact HM.out.at (by omega)
      have HNX : Hid (rowTo L a b f (k + 1) = (rowTo L a b f k).set (a + k) ((rowTo L a b f k)[a + k] + b[k] * f)) := show _ = _ by simp [rowTo, hak, hlt]
      have hst : (wr.setCell ⟨gt, a + k, none⟩ (.int .u64 (((rowTo L a b f k)[a + k] + b[k] * f : Nat) : Int))).ownsRow base 82 1 (.slice (some ⟨gt, 0, none⟩) L.length tcap) L.length (uvs (rowTo L a b f (k + 1))) := by
        rw [HNX.out, ← uvs_set]; exact (hown.stored (a + k) _).1
      have hm2 : Mod (fun q => q = gt) w (wr.setCell ⟨gt, a + k, none⟩ (.int .u64 (((rowTo L a b f k)[a + k] + b[k] * f : Nat) : Int))) := hm.setCell ⟨gt, a + k, none⟩ _ (fun _ => rfl)
      have HST : Hid _ := And.intro hst hm2
      clear hst hm2 hown hBr HNX
      generalize (rowTo L a b f k)[a + k] = x at *
      generalize b[k] = y at *
      have hyf : y * f ≤ 999999999 * 999999999 := Nat.mul_le_mul (by omega) (by omega)
      have w1 : IntKind.u64.wrap ((y : Int) * (f : Int)) = (y : Int) * (f : Int) := by
        rw [← Int.natCast_mul]; exact wrap_u64 (by omega) (by omega)
      have w2 : IntKind.u64.wrap ((x : Int) + (y : Int) * (f : Int)) = (x : Int) + (y : Int) * (f : Int) := by
        rw [← Int.natCast_mul]; exact wrap_u64 (by omega) (by omega)
      have w3 : IntKind.i64.wrap ((a : Int) + (k : Int)) = (a : Int) + (k : Int) := by
        simp [IntKind.wrap, IntKind.signed, IntKind.bits]; omega
      have q1 : (a : Int) + (k : Int) < (L.length : Int) := by omega
      have q0 : (0 : Int) ≤ (a : Int) + (k : Int) := by omega
      have q2 : ((a : Int) + (k : Int)).toNat = a + k := by omega
      clear hyf
      go_wp2_with fail
      go_region
      go_wp2_with fail
      go_roundw
      case rel =>
        have h2 := HST.out
        rw [show ((x + y * f : Nat) : Int) = (x : Int) + (y : Int) * (f : Int) by simp] at h2
        exact ⟨k + 1, by omega, by go_num, h2.1.drew, h2.2.drew⟩
      case measure => simp [intOf]; omega
    · have hks : k = b.length := by omega
      subst hks
      go_wp2_with fail
      exact bodyPost_end (v := .tuple #[]) (by simp [results, Tryd.results70]) rfl ⟨rfl, hm, hown⟩
end Go.Proofs.YtmnfndpbblpjiaaDoor

/- The program's rows of limbs: carry, done. -/
namespace Go.Proofs.YtmnfndpbblpjiaaDoor
open Go.RowKit Pu

set_option maxHeartbeats 1600000 in
set_option maxRecDepth 4000 in
theorem carry_any (tb gt tcap : Nat) (L : List Nat) (M base : Nat) (w : World) (hT : Tl w tb (.slice (some ⟨gt, 0, none⟩) L.length tcap)) (hL : w.ownsRow base 82 1 (.slice (some ⟨gt, 0, none⟩) L.length tcap) L.length (uvs L))
    (hnt : tb ≠ gt) (hl : L.length ≤ 100000) (hM : Bd L M) (hMM : M ≤ 17000000000000000000) :
    Calls Tryd.prog 65 #[.pointer (some ⟨tb, 0, none⟩)] w fun e w' => e = .returned (.tuple #[]) ∧ Mod (fun q => q = gt) w w' ∧ w'.ownsRow base 82 1 (.slice (some ⟨gt, 0, none⟩) L.length tcap) L.length (uvs (carTo L L.length).1) := by
  have HO : Hid (∀ k, (carTo L k).2 ≤ 18000000000) := fun k => carTo_over hM hMM k
  have HFar : Hid (∀ k, (carTo L k).1[k]? = L[k]?) := fun k => carTo_far L k k (Nat.le_refl _)
  have HM : Hid (Bd L M) := hM
  have HRL : Hid (∀ k, (carTo L k).1.length = L.length) := fun k => carTo_len L k
  have t00 := hT.c0
  clear hM
  go_enter Tryd.func65, Tryd.ntmps65
  go_wp2_with fail
  go_loopw [2, 10] (fun ov kv wr => ∃ k : Nat, k ≤ L.length ∧ kv = .int .i64 k ∧ ov = .int .u64 ((carTo L k).2 : Int) ∧ wr.ownsRow base 82 1 (.slice (some ⟨gt, 0, none⟩) L.length tcap) L.length (uvs (carTo L k).1) ∧ Mod (fun q => q = gt) w wr) (fun _ kv _ => L.length - (intOf kv).toNat)
  case atStart => exact ⟨0, by omega, rfl, rfl, hL, Mod.refl _ _⟩
  case round =>
    clear hL t00
    obtain ⟨k, hk, rfl, rfl, hown, hm⟩ := hrel
    have t0 := (hT.keep hm hnt).c0
    by_cases hlt : k < L.length
    · have hak : k < (carTo L k).1.length := by rw [HRL.out]; exact hlt
      obtain ⟨g2, hg2, ca⟩ := uvs_cell hown (HRL.out k).symm hak
      injection hg2 with hg2
      injection hg2 with hg2
      subst hg2
      have hfz := hown.frozenAt k
      have hxM : (carTo L k).1[k] ≤ M := by
        have h1 := HFar.out k
        rw [List.getElem?_eq_getElem hak, List.getElem?_eq_getElem hlt] at h1
        rw [Option.some.inj h1]
        exact HM.out.at hlt
      have hov := HO.out k
      have HNX : Hid (carTo L (k + 1) = ((carTo L k).1.set k (((carTo L k).1[k] + (carTo L k).2) % 1000000000), ((carTo L k).1[k] + (carTo L k).2) / 1000000000)) := show _ = _ by simp [carTo, hak]
      have hst : (wr.setCell ⟨gt, k, none⟩ (.int .u64 ((((carTo L k).1[k] + (carTo L k).2) % 1000000000 : Nat) : Int))).ownsRow base 82 1 (.slice (some ⟨gt, 0, none⟩) L.length tcap) L.length (uvs (carTo L (k + 1)).1) := by
        rw [HNX.out, ← uvs_set]; exact (hown.stored k _).1
      have hm2 : Mod (fun q => q = gt) w (wr.setCell ⟨gt, k, none⟩ (.int .u64 ((((carTo L k).1[k] + (carTo L k).2) % 1000000000 : Nat) : Int))) := hm.setCell ⟨gt, k, none⟩ _ (fun _ => rfl)
      have HN2 : Hid ((carTo L (k + 1)).2 = ((carTo L k).1[k] + (carTo L k).2) / 1000000000) := show _ = _ by rw [HNX.out]
      have HST : Hid _ := And.intro hst hm2
      clear hst hm2 hown HNX
      generalize (carTo L k).1[k] = x at *
      generalize (carTo L k).2 = y at *
      have w1 : IntKind.u64.wrap ((x : Int) + (y : Int)) = (x : Int) + (y : Int) := wrap_u64 (by omega) (by omega)
      go_wp2_with fail
      go_roundw
      case rel =>
        have h2 := HST.out
        rw [show (((x + y) % 1000000000 : Nat) : Int) = ((x : Int) + (y : Int)) % 1000000000 by omega] at h2
        exact ⟨k + 1, by omega, by go_num, by rw [HN2.out]; congr 1, h2.1, h2.2⟩
      case measure => simp [intOf]; omega
    · have hks : k = L.length := by omega
      subst hks
      go_wp2_with fail
      exact bodyPost_end (v := .tuple #[]) (by simp [results, Tryd.results65]) rfl ⟨rfl, hm, hown⟩

theorem owns_take {w : World} {base : Nat} {e : TypeId} {g n cap : Nat} {l : List Nat} (h : w.ownsRow base e 1 (.slice (some ⟨g, 0, none⟩) n cap) n (uvs l)) (m : Nat) (hm : m ≤ n) : w.ownsRow base e 1 (.slice (some ⟨g, 0, none⟩) m cap) m (uvs (l.take m)) := by
  obtain ⟨hl, ⟨he, _⟩ | ⟨g', cap', cur, he, hb, hg, h1, h2, h3, h4⟩⟩ := h
  · simp at he
  · simp at he
    obtain ⟨rfl, rfl⟩ := he
    have hll : l.length = n := by simpa [uvs] using hl
    refine ⟨by simp [uvs]; omega, .inr ⟨g, cap, cur, rfl, hb, hg, by omega, h2, h3, ?_⟩⟩
    have : (uvs (l.take m)) = (uvs l).take m := by simp [uvs, List.map_take]
    rw [this, ← h4, List.take_take]
    congr 1
    omega
set_option maxHeartbeats 1600000 in
set_option maxRecDepth 4000 in
theorem done_any (tb gt tcap : Nat) (L : List Nat) (base : Nat) (w : World) (hT : Tl w tb (.slice (some ⟨gt, 0, none⟩) L.length tcap)) (hL : w.ownsRow base 82 1 (.slice (some ⟨gt, 0, none⟩) L.length tcap) L.length (uvs L)) (hl : L.length ≤ 100000) :
    Calls Tryd.prog 66 #[.pointer (some ⟨tb, 0, none⟩)] w fun e w' => Mod (fun _ => False) w w' ∧ ∃ n ao, e = .returned (.slice ao n tcap) ∧ n ≤ L.length ∧ w'.ownsRow base 82 1 (.slice ao n tcap) n (uvs (L.take n)) ∧ v9 (L.take n) = v9 L ∧ T9 (L.take n) := by
  have t0 := hT.c0
  go_enter Tryd.func66, Tryd.ntmps66
  go_wp2_with fail
  go_loop [3] (fun kv => ∃ n : Nat, n ≤ L.length ∧ kv = .int .i64 n ∧ Hid (v9 (L.take n) = v9 L)) (fun kv => (intOf kv).toNat)
  case atStart => exact ⟨L.length, by omega, rfl, show v9 _ = _ by rw [List.take_length]⟩
  case round =>
    obtain ⟨n, hn, rfl, HV⟩ := hrel
    have hcap : L.length ≤ tcap := by
      obtain ⟨_, ⟨he, _⟩ | ⟨g', cap', cur, he, _, _, h1, _⟩⟩ := hL
      · simp at he
      · simp at he; omega
    have hE := owns_take hL n hn
    rcases Nat.eq_zero_or_pos n with hz | hz
    · have HT : Hid (T9 (L.take n)) := by subst hz; intro d hd; simp at hd
      have hn0 : ¬ (0 : Int) < (n : Int) := by omega
      have hn1 : (n : Int) ≤ 0 := by omega
      clear hz
      go_wp2_with fail
      go_ret
      exact ⟨Mod.refl _ _, n, _, rfl, hn, hE, HV.out, HT.out⟩
    · obtain ⟨m, rfl⟩ : ∃ j, n = j + 1 := ⟨n - 1, by omega⟩
      clear hz
      have hml : m < L.length := by omega
      obtain ⟨gb, hgb, cm⟩ := uvs_cell hL rfl hml
      injection hgb with hgb
      injection hgb with hgb
      subst hgb
      have HTK : Hid (L.take (m + 1) = L.take m ++ [L[m]]) := show _ = _ by rw [List.take_succ_eq_append_getElem hml]
      by_cases h0 : L[m] = 0
      · have HV2 : Hid (v9 (L.take m) = v9 L) := show v9 (L.take m) = v9 L by rw [← HV.out, HTK.out, h0, v9_zero_top]
        have hb : ((L[m] : Int) == 0) = true := beq_t (m := 0) h0
        clear h0
        go_wp2_with fail
        go_round
        case rel => exact ⟨m, by omega, by go_num, HV2⟩
        case measure => simp [intOf]
      · have hb : ((L[m] : Int) == 0) = false := beq_f (m := 0) h0
        have HT : Hid (T9 (L.take (m + 1))) := show T9 _ by
          intro d hd
          rw [HTK.out, List.getLast?_concat] at hd
          injection hd with hd
          rw [← hd]; exact h0
        clear h0
        go_wp2_with fail
        go_ret
        exact ⟨Mod.refl _ _, m + 1, _, rfl, hn, hE, HV.out, HT.out⟩
end Go.Proofs.YtmnfndpbblpjiaaDoor
