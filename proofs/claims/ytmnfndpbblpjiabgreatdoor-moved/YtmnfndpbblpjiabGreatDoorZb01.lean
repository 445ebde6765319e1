/- The plain functions by which the two sides are held together: the document's scanner and its gathering of statements, byte by byte; names, sorts, weights, faults. No program is named here. -/
import Derived.WalkKit
import Derived.Test.YtmnfndpbblpjiabGreatDoorRows
import Derived.WalkSpells
import Derived.WalkLawsBesides
import Derived.Deep.QuietTactic
import Derived.BigQuiet
import Derived.Shelf.Strconv.Itoa3
namespace Go.Proofs.YtmnfndpbblpjiabGreatDoor.Pu

/-- The byte at a place, nought behind the end. -/
def bt (s : ByteArray) (i : Nat) : UInt8 := if h : i < s.size then s[i] else 0
def g (s : ByteArray) (i : Nat) : Nat := (bt s i).toNat
def isL (c : Nat) : Bool := decide (97 ≤ c) && decide (c ≤ 122)

theorem bt_in {s : ByteArray} {i : Nat} (h : i < s.size) : bt s i = s[i] := by simp [bt, h]
theorem g_in {s : ByteArray} {i : Nat} (h : i < s.size) : g s i = s[i].toNat := by simp [g, bt, h]
theorem g_out {s : ByteArray} {i : Nat} (h : s.size ≤ i) : g s i = 0 := by simp [g, bt, show ¬ i < s.size by omega]
theorem g_lt (s : ByteArray) (i : Nat) : g s i < 256 := (bt s i).toNat_lt
theorem lt_of_g {s : ByteArray} {i : Nat} (h : g s i ≠ 0) : i < s.size := by
  by_cases hl : i < s.size
  · exact hl
  · exact absurd (g_out (by omega)) h

/-- The scanner: its state, whole statements, letters, arguments. -/
structure Sc where
  st : Nat
  n : Nat
  le : Nat
  ar : Nat

def nx (x : Sc) (c : Nat) : Option Sc :=
  if x.st = 0 then
    if x.n = 16 then none else if c = 63 then some ⟨2, x.n, x.le, x.ar⟩ else if isL c then some ⟨1, x.n, x.le, x.ar⟩ else none
  else if x.st = 1 then (if c = 61 then some ⟨2, x.n, x.le, x.ar⟩ else none)
  else if x.st = 2 then (if isL c then some ⟨3, x.n, 1, x.ar⟩ else none)
  else if x.st = 3 then (if isL c && decide (x.le < 6) then some ⟨3, x.n, x.le + 1, x.ar⟩ else if c = 40 then some ⟨4, x.n, x.le, 0⟩ else none)
  else if x.st = 4 then (if isL c then some ⟨5, x.n, x.le, x.ar + 1⟩ else if c = 41 then some ⟨7, x.n, x.le, x.ar⟩ else none)
  else if x.st = 5 then (if c = 41 then some ⟨7, x.n, x.le, x.ar⟩ else if c = 44 ∧ x.ar < 4 then some ⟨6, x.n, x.le, x.ar⟩ else none)
  else if x.st = 6 then (if isL c then some ⟨5, x.n, x.le, x.ar + 1⟩ else none)
  else if x.st = 7 then (if c = 59 then some ⟨0, x.n + 1, x.le, x.ar⟩ else none)
  else none

def stA (s : ByteArray) : Nat → Option Sc
  | 0 => some ⟨0, 0, 0, 0⟩
  | i + 1 => (stA s i).bind fun x => nx x (g s i)

theorem stA_succ {s : ByteArray} {i : Nat} {x y : Sc} (h : stA s i = some x) (hn : nx x (g s i) = some y) : stA s (i + 1) = some y := by simp [stA, h, hn]

theorem stA_back {s : ByteArray} : ∀ {i : Nat} {y : Sc}, stA s (i + 1) = some y → ∃ x, stA s i = some x ∧ nx x (g s i) = some y := by
  intro i y h
  simp only [stA] at h
  cases hx : stA s i with
  | none => simp [hx] at h
  | some x => exact ⟨x, rfl, by simpa [hx] using h⟩

theorem stA_le {s : ByteArray} : ∀ {d i : Nat} {y : Sc}, stA s (i + d) = some y → ∃ x, stA s i = some x := by
  intro d
  induction d with
  | zero => intro i y h; exact ⟨y, h⟩
  | succ d ih => intro i y h; obtain ⟨x, hx, _⟩ := stA_back (i := i + d) h; exact ih hx

/-- The scanner stands at k and can go no further. -/
def Stuck (s : ByteArray) (k : Nat) : Prop := ∃ x, stA s k = some x ∧ ((k < s.size ∧ nx x (g s k) = none) ∨ (k = s.size ∧ x.st ≠ 0))
/-- The text is a source. -/
def Whole (s : ByteArray) : Prop := ∃ x, stA s s.size = some x ∧ x.st = 0

theorem Stuck.le {s : ByteArray} {k : Nat} (h : Stuck s k) : k ≤ s.size := by
  obtain ⟨x, _, h | h⟩ := h <;> omega

theorem Stuck.not_lt {s : ByteArray} {p q : Nat} (h : Stuck s p) {y : Sc} (hq : stA s q = some y) (hs : q ≤ s.size) : q ≤ p := by
  obtain ⟨x, hx, ⟨hlt, hn⟩ | ⟨he, _⟩⟩ := h
  · by_cases hle : q ≤ p
    · exact hle
    · obtain ⟨d, rfl⟩ : ∃ d, q = p + 1 + d := ⟨q - (p + 1), by omega⟩
      obtain ⟨z, hz⟩ := stA_le hq
      simp [stA, hx, hn] at hz
  · omega

theorem Stuck.unique {s : ByteArray} {p q : Nat} (h : Stuck s p) (k : Stuck s q) : p = q := by
  have h1 := h; have k1 := k
  obtain ⟨x, hx, _⟩ := h
  obtain ⟨y, hy, _⟩ := k
  have a := h1.not_lt hy k1.le
  have b := k1.not_lt hx h1.le
  omega

theorem Stuck.not_whole {s : ByteArray} {p : Nat} (h : Stuck s p) (k : Whole s) : False := by
  obtain ⟨y, hy, h0⟩ := k
  have a := h.not_lt hy (Nat.le_refl _)
  have hp : p = s.size := by have := h.le; omega
  subst hp
  obtain ⟨x, hx, ⟨hlt, _⟩ | ⟨_, hn⟩⟩ := h
  · omega
  · rw [hy] at hx; cases hx; exact hn h0

/-- A statement. -/
structure St where
  name : Nat
  word : List UInt8
  args : List UInt8

/-- The gathering of statements. -/
structure Ga where
  l : List St
  x : St
  ins : Bool

def gaStep (s : ByteArray) (i : Nat) (a : Ga) : Ga :=
  if g s i = 61 then ⟨a.l, ⟨g s (i - 1), [], a.x.args⟩, a.ins⟩
  else if g s i = 63 then ⟨a.l, ⟨a.x.name, [], a.x.args⟩, a.ins⟩
  else if g s i = 40 then ⟨a.l, a.x, true⟩
  else if g s i = 41 then ⟨a.l, a.x, false⟩
  else if g s i = 59 then ⟨a.l ++ [a.x], ⟨0, [], []⟩, a.ins⟩
  else if isL (g s i) then
    if a.ins then ⟨a.l, ⟨a.x.name, a.x.word, a.x.args ++ [bt s i]⟩, a.ins⟩ else ⟨a.l, ⟨a.x.name, a.x.word ++ [bt s i], a.x.args⟩, a.ins⟩
  else a

def gaA (s : ByteArray) : Nat → Ga
  | 0 => ⟨[], ⟨0, [], []⟩, false⟩
  | i + 1 => gaStep s i (gaA s i)

/-- Both stand so at k. -/
def At (s : ByteArray) (k st n le ar : Nat) (l : List St) (x : St) (ins : Bool) : Prop := stA s k = some ⟨st, n, le, ar⟩ ∧ gaA s k = ⟨l, x, ins⟩

theorem isL_iff (c : Nat) : isL c = true ↔ 97 ≤ c ∧ c ≤ 122 := by simp [isL]

section steps
variable {s : ByteArray} {k n le ar : Nat} {l : List St} {x : St} {ins : Bool}
theorem at_start (s : ByteArray) : At s 0 0 0 0 0 [] ⟨0, [], []⟩ false := ⟨rfl, rfl⟩
theorem at_ask (h : At s k 0 n le ar l x ins) (hn : n ≠ 16) (hc : g s k = 63) : At s (k + 1) 2 n le ar l ⟨x.name, [], x.args⟩ ins :=
  ⟨stA_succ h.1 (by simp [nx, hn, hc]), by simp [gaA, h.2, gaStep, hc]⟩
theorem at_name (h : At s k 0 n le ar l x false) (hn : n ≠ 16) (hc : isL (g s k) = true) : At s (k + 1) 1 n le ar l ⟨x.name, x.word ++ [bt s k], x.args⟩ false := by
  have hl := (isL_iff _).1 hc
  exact ⟨stA_succ h.1 (by simp [nx, hn, hc, show g s k ≠ 63 by omega]), by
    simp [gaA, h.2, gaStep, hc, show g s k ≠ 61 by omega, show g s k ≠ 63 by omega, show g s k ≠ 40 by omega, show g s k ≠ 41 by omega, show g s k ≠ 59 by omega]⟩
theorem at_equal (h : At s k 1 n le ar l x ins) (hc : g s k = 61) : At s (k + 1) 2 n le ar l ⟨g s (k - 1), [], x.args⟩ ins :=
  ⟨stA_succ h.1 (by simp [nx, hc]), by simp [gaA, h.2, gaStep, hc]⟩
theorem at_first (h : At s k 2 n le ar l x false) (hc : isL (g s k) = true) : At s (k + 1) 3 n 1 ar l ⟨x.name, x.word ++ [bt s k], x.args⟩ false := by
  have hl := (isL_iff _).1 hc
  exact ⟨stA_succ h.1 (by simp [nx, hc]), by
    simp [gaA, h.2, gaStep, hc, show g s k ≠ 61 by omega, show g s k ≠ 63 by omega, show g s k ≠ 40 by omega, show g s k ≠ 41 by omega, show g s k ≠ 59 by omega]⟩
theorem at_more (h : At s k 3 n le ar l x false) (hle : le < 6) (hc : isL (g s k) = true) : At s (k + 1) 3 n (le + 1) ar l ⟨x.name, x.word ++ [bt s k], x.args⟩ false := by
  have hl := (isL_iff _).1 hc
  exact ⟨stA_succ h.1 (by simp [nx, hc, hle]), by
    simp [gaA, h.2, gaStep, hc, show g s k ≠ 61 by omega, show g s k ≠ 63 by omega, show g s k ≠ 40 by omega, show g s k ≠ 41 by omega, show g s k ≠ 59 by omega]⟩
theorem at_open (h : At s k 3 n le ar l x ins) (hc : g s k = 40) : At s (k + 1) 4 n le 0 l x true :=
  ⟨stA_succ h.1 (by simp [nx, hc, isL]), by simp [gaA, h.2, gaStep, hc]⟩
theorem at_none (h : At s k 4 n le ar l x ins) (hc : g s k = 41) : At s (k + 1) 7 n le ar l x false :=
  ⟨stA_succ h.1 (by simp [nx, hc, isL]), by simp [gaA, h.2, gaStep, hc]⟩
theorem at_arg (h : At s k 4 n le ar l x true ∨ At s k 6 n le ar l x true) (hc : isL (g s k) = true) : At s (k + 1) 5 n le (ar + 1) l ⟨x.name, x.word, x.args ++ [bt s k]⟩ true := by
  have hl := (isL_iff _).1 hc
  rcases h with h | h <;>
  exact ⟨stA_succ h.1 (by simp [nx, hc]), by
    simp [gaA, h.2, gaStep, hc, show g s k ≠ 61 by omega, show g s k ≠ 63 by omega, show g s k ≠ 40 by omega, show g s k ≠ 41 by omega, show g s k ≠ 59 by omega]⟩
theorem at_shut (h : At s k 5 n le ar l x ins) (hc : g s k = 41) : At s (k + 1) 7 n le ar l x false :=
  ⟨stA_succ h.1 (by simp [nx, hc]), by simp [gaA, h.2, gaStep, hc]⟩
theorem at_comma (h : At s k 5 n le ar l x ins) (har : ar < 4) (hc : g s k = 44) : At s (k + 1) 6 n le ar l x ins :=
  ⟨stA_succ h.1 (by simp [nx, hc, har]), by simp [gaA, h.2, gaStep, hc, isL]⟩
theorem at_end (h : At s k 7 n le ar l x ins) (hc : g s k = 59) : At s (k + 1) 0 (n + 1) le ar (l ++ [x]) ⟨0, [], []⟩ ins :=
  ⟨stA_succ h.1 (by simp [nx, hc]), by simp [gaA, h.2, gaStep, hc]⟩

theorem stuck_of {st : Nat} (h : At s k st n le ar l x ins) (hk : k ≤ s.size) (h0 : st ≠ 0 ∨ k < s.size) (hn : nx ⟨st, n, le, ar⟩ (g s k) = none) : Stuck s k := by
  refine ⟨_, h.1, ?_⟩
  by_cases hlt : k < s.size
  · exact .inl ⟨hlt, hn⟩
  · exact .inr ⟨by omega, by rcases h0 with h0 | h0 <;> first | exact h0 | omega⟩
end steps

/-- Names: which of the first n gave it. -/
def giv (l : List St) (name : Nat) : Option Nat := l.findIdx? (fun x => decide (x.name = name))

end Go.Proofs.YtmnfndpbblpjiabGreatDoor.Pu

/- Words on memory that all the walks share: which blocks a call may have turned, how a reader, a sentence lie. -/
namespace Go.Proofs.YtmnfndpbblpjiabGreatDoor
open Go.RowKit

/-- Of the blocks that were there at most those of p have turned. -/
structure Mod (p : Nat → Prop) (w w' : World) : Prop where
  os : w'.os = w.os
  tape : w'.tape = w.tape
  output : w'.output = w.output
  size : w.heap.size ≤ w'.heap.size
  block : ∀ k, k < w.heap.size → ¬ p k → w'.heap[k]? = w.heap[k]?

section
variable {p q : Nat → Prop} {a b c w : World}
theorem Mod.refl (p : Nat → Prop) (w : World) : Mod p w w := ⟨rfl, rfl, rfl, Nat.le_refl _, fun _ _ _ => rfl⟩
theorem Mod.trans (h : Mod p a b) (k : Mod p b c) : Mod p a c :=
  ⟨k.os.trans h.os, k.tape.trans h.tape, k.output.trans h.output, Nat.le_trans h.size k.size, fun i hi hp => (k.block i (Nat.lt_of_lt_of_le hi h.size) hp).trans (h.block i hi hp)⟩
theorem Mod.mono (h : Mod p a b) (hp : ∀ k, k < a.heap.size → p k → q k) : Mod q a b := ⟨h.os, h.tape, h.output, h.size, fun k hk hn => h.block k hk fun hh => hn (hp k hk hh)⟩
theorem Mod.drewN (h : Mod p a b) (n : Nat) : Mod p a (b.drewN n) := ⟨h.os, h.tape, h.output, by simpa using h.size, fun k hk hp => h.block k hk hp⟩
theorem Mod.drew (h : Mod p a b) : Mod p a b.drew := ⟨h.os, h.tape, h.output, h.size, h.block⟩
theorem Mod.alloc (h : Mod p a b) (o : Obj) : Mod p a (b.alloc o) :=
  ⟨h.os, h.tape, h.output, by have := h.size; simp; omega, fun k hk hp => (Below.heap_alloc _ _ _ (Nat.lt_of_lt_of_le hk h.size)).trans (h.block k hk hp)⟩
theorem Mod.setCell (h : Mod p a b) (x : Addr) (v : Value) (hx : x.block < a.heap.size → p x.block) : Mod p a (b.setCell x v) := by
  refine ⟨h.os, h.tape, h.output, by simpa using h.size, fun k hk hp => ?_⟩
  rw [Below.heap_setCell _ _ _ _ (fun e => hp (by rw [e]; exact hx (by omega)))]
  exact h.block k hk hp
theorem Mod.grown {row : Option Nat} (h : Mod p a b) (hg : b.grownBy c row) (hr : ∀ k, row = some k → k < a.heap.size → p k) : Mod p a c :=
  ⟨hg.os.trans h.os, hg.tape.trans h.tape, hg.output.trans h.output, Nat.le_trans h.size hg.size, fun k hk hp => (hg.block k (Nat.lt_of_lt_of_le hk h.size) (fun e => hp (hr k e.symm hk))).trans (h.block k hk hp)⟩
theorem Mod.below (h : Mod (fun _ => False) a b) : Below a.heap.size a b := ⟨h.os, h.tape, h.output, h.size, fun k hk => h.block k hk (fun f => f)⟩
theorem Mod.below_of {B : Nat} (h : Mod p a b) (hp : ∀ k, p k → B ≤ k) (hB : B ≤ a.heap.size) : Below B a b :=
  ⟨h.os, h.tape, h.output, h.size, fun k hk => h.block k (by omega) (fun f => by have := hp k f; omega)⟩
theorem Mod.keep {o : Obj} {k : Nat} (h : Mod p a b) (hk : a.heap[k]? = some o) (hp : ¬ p k) : b.heap[k]? = some o :=
  (h.block k (lt_of_block hk) hp).trans hk
theorem Mod.same (n : Nat) (p : Nat → Prop) (w : World) : Mod p w (w.drewN n) := (Mod.refl p w).drewN n
end

abbrev S (l : List UInt8) : Value := .string ⟨l.toArray⟩

/-- A reader at k of the text s. -/
def Rd (w : World) (rb : Nat) (s : ByteArray) (k : Nat) : Prop := w.heap[rb]? = some (.cells #[.string s, .int .i64 k] 118 (0, 0))
/-- A sentence. -/
def Se (w : World) (sb : Nat) (n : Nat) (wd : List UInt8) (av : Value) (wt : Int) : Prop := w.heap[sb]? = some (.cells #[.int .u8 n, S wd, av, .int .i64 wt] 72 (0, 0))

section
variable {w : World} {rb sb k n : Nat} {s : ByteArray} {wd : List UInt8} {av : Value} {wt : Int}
theorem Rd.c0 (h : Rd w rb s k) : w.cell? ⟨rb, 0, none⟩ = some (.string s) := by unfold Rd at h; simp [World.cell?, h]
theorem Rd.c1 (h : Rd w rb s k) : w.cell? ⟨rb, 1, none⟩ = some (.int .i64 k) := by unfold Rd at h; simp [World.cell?, h]
theorem Rd.f1 (h : Rd w rb s k) : w.frozen? ⟨rb, 1, none⟩ = false := by unfold Rd at h; simp [World.frozen?, h]
theorem Rd.lt (h : Rd w rb s k) : rb < w.heap.size := lt_of_block h
theorem Rd.set (h : Rd w rb s k) (j : Nat) : Rd (w.setCell ⟨rb, 1, none⟩ (.int .i64 j)) rb s j := by
  unfold Rd at *
  simp [World.setCell, Array.getElem?_modify, h]
theorem Rd.drewN (h : Rd w rb s k) (j : Nat) : Rd (w.drewN j) rb s k := by unfold Rd at *; simpa using h
theorem Rd.keep {p : Nat → Prop} {w' : World} (h : Rd w rb s k) (hm : Mod p w w') (hp : ¬ p rb) : Rd w' rb s k := hm.keep h hp
theorem Se.lt (h : Se w sb n wd av wt) : sb < w.heap.size := lt_of_block h
theorem Se.ne (h : Se w sb n wd av wt) (k : Rd w rb s k) : rb ≠ sb := by
  intro e; subst e; unfold Se at h; unfold Rd at k; rw [h] at k; simp at k
theorem Se.c0 (h : Se w sb n wd av wt) : w.cell? ⟨sb, 0, none⟩ = some (.int .u8 n) := by unfold Se at h; simp [World.cell?, h]
theorem Se.c1 (h : Se w sb n wd av wt) : w.cell? ⟨sb, 1, none⟩ = some (S wd) := by unfold Se at h; simp [World.cell?, h]
theorem Se.c2 (h : Se w sb n wd av wt) : w.cell? ⟨sb, 2, none⟩ = some av := by unfold Se at h; simp [World.cell?, h]
theorem Se.c3 (h : Se w sb n wd av wt) : w.cell? ⟨sb, 3, none⟩ = some (.int .i64 wt) := by unfold Se at h; simp [World.cell?, h]
theorem Se.fz (h : Se w sb n wd av wt) (i : Nat) : w.frozen? ⟨sb, i, none⟩ = false := by unfold Se at h; simp [World.frozen?, h]
theorem Se.set0 (h : Se w sb n wd av wt) (j : Nat) : Se (w.setCell ⟨sb, 0, none⟩ (.int .u8 j)) sb j wd av wt := by unfold Se at *; simp [World.setCell, Array.getElem?_modify, h]
theorem Se.set1 (h : Se w sb n wd av wt) (j : List UInt8) : Se (w.setCell ⟨sb, 1, none⟩ (S j)) sb n j av wt := by unfold Se at *; simp [World.setCell, Array.getElem?_modify, h]
theorem Se.set2 (h : Se w sb n wd av wt) (j : Value) : Se (w.setCell ⟨sb, 2, none⟩ j) sb n wd j wt := by unfold Se at *; simp [World.setCell, Array.getElem?_modify, h]
theorem Se.set3 (h : Se w sb n wd av wt) (j : Int) : Se (w.setCell ⟨sb, 3, none⟩ (.int .i64 j)) sb n wd av j := by unfold Se at *; simp [World.setCell, Array.getElem?_modify, h]
theorem Se.drewN (h : Se w sb n wd av wt) (j : Nat) : Se (w.drewN j) sb n wd av wt := by unfold Se at *; simpa using h
theorem Se.keep {p : Nat → Prop} {w' : World} (h : Se w sb n wd av wt) (hm : Mod p w w') (hp : ¬ p sb) : Se w' sb n wd av wt := hm.keep h hp
end

theorem beq_t {c m : Nat} (h : c = m) : ((c : Int) == (m : Int)) = true := by subst h; simp
theorem beq_f {c m : Nat} (h : ¬ c = m) : ((c : Int) == (m : Int)) = false := by
  rw [beq_eq_false_iff_ne]; omega
/-- Bytes as cells. -/
def bvs (l : List UInt8) : List Value := l.map fun c => .int .u8 (c.toNat : Int)
theorem bvs_len (l : List UInt8) : (bvs l).length = l.length := by simp [bvs]
theorem bvs_snoc (l : List UInt8) (c : UInt8) : bvs l ++ [.int .u8 (c.toNat : Int)] = bvs (l ++ [c]) := by simp [bvs]
def sliceLen : Value → Nat
  | .slice _ n _ => n
  | _ => 0

section
variable {w w' : World} {base : Nat} {e : TypeId} {size : Nat} {v : Value} {n : Nat} {xs : List Value}
theorem owns_form (h : w.ownsRow base e size v n xs) : ∃ ao cap, v = .slice ao n cap ∧ (ao = none → n = 0 ∧ cap = 0) := by
  obtain ⟨_, ⟨rfl, rfl⟩ | ⟨g, cap, cur, rfl, _⟩⟩ := h
  · exact ⟨none, 0, rfl, fun _ => ⟨rfl, rfl⟩⟩
  · exact ⟨_, cap, rfl, fun h => by cases h⟩
theorem owns_mod {p : Nat → Prop} (h : w.ownsRow base e size v n xs) (hm : Mod p w w') (hp : ∀ g, base ≤ g → p g → False) : w'.ownsRow base e size v n xs := by
  obtain ⟨hl, ⟨rfl, rfl⟩ | ⟨g, cap, cur, rfl, hb, hg, h1, h2, h3, h4⟩⟩ := h
  · exact ⟨hl, .inl ⟨rfl, rfl⟩⟩
  · exact ⟨hl, .inr ⟨g, cap, cur, rfl, hb, hm.keep hg (hp g hb), h1, h2, h3, h4⟩⟩
theorem owns_mod' {p : Nat → Prop} (h : w.ownsRow base e size v n xs) (hm : Mod p w w') (hp : ∀ g, v.ownBlock = some g → p g → False) : w'.ownsRow base e size v n xs := by
  obtain ⟨hl, ⟨rfl, rfl⟩ | ⟨g, cap, cur, rfl, hb, hg, h1, h2, h3, h4⟩⟩ := h
  · exact ⟨hl, .inl ⟨rfl, rfl⟩⟩
  · exact ⟨hl, .inr ⟨g, cap, cur, rfl, hb, hm.keep hg (hp g rfl), h1, h2, h3, h4⟩⟩
theorem owns_drewN (h : w.ownsRow base e size v n xs) (j : Nat) : (w.drewN j).ownsRow base e size v n xs := owns_mod h (Mod.same j (fun _ => False) w) (fun _ _ f => f)
theorem owns_base {base' : Nat} (h : w.ownsRow base e size v n xs) (hb : base' ≤ base) : w.ownsRow base' e size v n xs := by
  obtain ⟨hl, ⟨rfl, rfl⟩ | ⟨g, cap, cur, rfl, hb', hg⟩⟩ := h
  · exact ⟨hl, .inl ⟨rfl, rfl⟩⟩
  · exact ⟨hl, .inr ⟨g, cap, cur, rfl, by omega, hg⟩⟩
theorem owns_cell {ao : Option Addr} {cap : Nat} (h : w.ownsRow base e size (.slice ao n cap) n xs) {j : Nat} (hj : j < n * size) : ∃ gb, ao = some ⟨gb, 0, none⟩ ∧ w.cell? ⟨gb, j, none⟩ = xs[j]? := by
  have h' := h
  obtain ⟨hl, ⟨he, rfl⟩ | ⟨gb, cap', cur, he, hb', hg⟩⟩ := h
  · simp at hj
  · cases he
    exact ⟨gb, rfl, h'.cellAt j hj⟩
theorem convert_owned {P : Program} {src dst : TypeId} {l : List UInt8} (h : w.ownsRow base e 1 v n (bvs l)) (hn : n = l.length) (hs : P.underlying src = some (.slice e)) (he : P.underlying e = some (.int .u8)) (hd : P.underlying dst = some .string) :
    (convert src dst v).run P w = .ok (S l) w := by
  subst hn
  have h' := h
  obtain ⟨hl, ⟨rfl, h0⟩ | ⟨gb, cap, cur, rfl, hb', hg⟩⟩ := h
  · have : l = [] := List.eq_nil_of_length_eq_zero h0
    subst this
    exact run_convert_bytes_nil w src e hs he 0 0 dst hd
  · refine run_convert_bytes_back w src dst e _ cap l hs he hd fun j hj => ?_
    have hc := h'.cellAt j (by omega)
    have ha : (⟨gb, 0, none⟩ : Addr).add j = ⟨gb, j, none⟩ := by
      unfold Addr.add
      by_cases h0 : j = 0
      · subst h0; simp
      · simp [h0]
    rw [ha, hc]
    simp [bvs, hj]
end

end Go.Proofs.YtmnfndpbblpjiabGreatDoor

/- strconv.Itoa lies in this program as the library's contract on it asks. -/
namespace Go.Proofs.YtmnfndpbblpjiabGreatDoor
open Go.Shelf

def Tryz.laysItoa_ren : Go.Shelf.Ren := ⟨fun | 171 => 36 | 243 => 58 | 246 => 98 | 283 => 143 | 284 => 144 | 285 => 145 | 286 => 146 | 129 => 180 | 317 => 179 | 318 => 181 | 319 => 182 | 320 => 183 | 337 => 196 | 338 => 197 | n => n, fun | 3 => 3 | 9 => 9 | 2 => 2 | 4 => 4 | 171 => 187 | 0 => 0 | 53 => 188 | 37 => 70 | 5 => 5 | 173 => 191 | 212 => 225 | 51 => 226 | 20 => 20 | 213 => 227 | 46 => 229 | 232 => 245 | 233 => 246 | n => n, fun | 17 => 0 | 18 => 1 | 19 => 2 | n => n⟩
theorem Tryz.laysItoa : LaysM.n171 Tryz.prog Tryz.laysItoa_ren where
  mixed := by kernel_rfl
  f129 := Tryz.func180.trans (congrArg some (by kernel_rfl))
  f171 := Tryz.func36.trans (congrArg some (by kernel_rfl))
  f243 := Tryz.func58.trans (congrArg some (by kernel_rfl))
  f246 := Tryz.func98.trans (congrArg some (by kernel_rfl))
  f283 := Tryz.func143.trans (congrArg some (by kernel_rfl))
  f284 := Tryz.func144.trans (congrArg some (by kernel_rfl))
  f285 := Tryz.func145.trans (congrArg some (by kernel_rfl))
  f286 := Tryz.func146.trans (congrArg some (by kernel_rfl))
  f317 := Tryz.func179.trans (congrArg some (by kernel_rfl))
  f318 := Tryz.func181.trans (congrArg some (by kernel_rfl))
  f319 := Tryz.func182.trans (congrArg some (by kernel_rfl))
  f320 := Tryz.func183.trans (congrArg some (by kernel_rfl))
  f337 := Tryz.func196.trans (congrArg some (by kernel_rfl))
  f338 := Tryz.func197.trans (congrArg some (by kernel_rfl))
  t0 := Tryz.underlying0
  a0 := Tryz.isAgg0
  z0 := Tryz.sizeOf0
  v0 := Tryz.zeroValue0
  t2 := Tryz.underlying2
  a2 := Tryz.isAgg2
  z2 := Tryz.sizeOf2
  v2 := Tryz.zeroValue2
  t3 := Tryz.underlying3
  a3 := Tryz.isAgg3
  z3 := Tryz.sizeOf3
  v3 := Tryz.zeroValue3
  t4 := Tryz.underlying4
  a4 := Tryz.isAgg4
  z4 := Tryz.sizeOf4
  v4 := Tryz.zeroValue4
  t5 := Tryz.underlying5
  a5 := Tryz.isAgg5
  z5 := Tryz.sizeOf5
  v5 := Tryz.zeroValue5
  t9 := Tryz.underlying9
  a9 := Tryz.isAgg9
  z9 := Tryz.sizeOf9
  v9 := Tryz.zeroValue9
  t20 := Tryz.underlying20
  a20 := Tryz.isAgg20
  z20 := Tryz.sizeOf20
  v20 := Tryz.zeroValue20
  t37 := Tryz.underlying70
  a37 := Tryz.isAgg70
  z37 := Tryz.sizeOf70
  v37 := Tryz.zeroValue70
  t46 := Tryz.underlying229
  a46 := Tryz.isAgg229
  z46 := Tryz.sizeOf229
  v46 := Tryz.zeroValue229
  t51 := Tryz.underlying226
  a51 := Tryz.isAgg226
  z51 := Tryz.sizeOf226
  v51 := Tryz.zeroValue226
  t53 := Tryz.underlying188
  a53 := Tryz.isAgg188
  z53 := Tryz.sizeOf188
  v53 := Tryz.zeroValue188
  t171 := Tryz.underlying187
  a171 := Tryz.isAgg187
  z171 := Tryz.sizeOf187
  v171 := Tryz.zeroValue187
  t173 := Tryz.underlying191
  a173 := Tryz.isAgg191
  z173 := Tryz.sizeOf191
  v173 := Tryz.zeroValue191
  t212 := Tryz.underlying225
  a212 := Tryz.isAgg225
  z212 := Tryz.sizeOf225
  v212 := Tryz.zeroValue225
  t213 := Tryz.underlying227
  a213 := Tryz.isAgg227
  z213 := Tryz.sizeOf227
  t232 := Tryz.underlying245
  a232 := Tryz.isAgg245
  z232 := Tryz.sizeOf245
  v232 := Tryz.zeroValue245
  t233 := Tryz.underlying246
  a233 := Tryz.isAgg246
  z233 := Tryz.sizeOf246
  v233 := Tryz.zeroValue246
  g17 := by kernel_rfl
  g18 := by kernel_rfl
  g19 := by kernel_rfl
  i0 := by kernel_rfl
  i2 := by kernel_rfl
  i3 := by kernel_rfl
  i4 := by kernel_rfl
  i5 := by kernel_rfl
  i9 := by kernel_rfl
  i20 := by kernel_rfl
  i37 := by kernel_rfl
  i46 := by kernel_rfl
  i51 := by kernel_rfl
  i53 := by kernel_rfl
  i171 := by kernel_rfl
  i173 := by kernel_rfl
  i212 := by kernel_rfl
  i232 := by kernel_rfl
  i233 := by kernel_rfl
  m17 := by kernel_rfl
  m18 := by kernel_rfl
  m19 := by kernel_rfl
end Go.Proofs.YtmnfndpbblpjiabGreatDoor

/- Numerals and texts of inputs: plain functions. -/
namespace Go.Proofs.YtmnfndpbblpjiabGreatDoor.Pu

def decN (n : Nat) : List UInt8 := if 9 < n then [UInt8.ofNat (48 + n / 10), UInt8.ofNat (48 + n % 10)] else [UInt8.ofNat (48 + n % 10)]
/-- The digits of a number from -99 to 99. -/
def dec (n : Int) : ByteArray := ⟨((if n < 0 then [45] else []) ++ decN n.natAbs).toArray⟩
theorem dec_nat (n : Nat) : dec (n : Int) = ⟨(decN n).toArray⟩ := by
  unfold dec; rw [if_neg (by omega)]; simp
theorem dec_neg (n : Nat) (h : 0 < n) : dec (-(n : Int)) = ⟨(45 :: decN n).toArray⟩ := by
  unfold dec; rw [if_pos (by omega)]; simp
theorem dec_size (n : Int) : (dec n).size ≤ 3 := by
  show (((if n < 0 then [45] else []) ++ decN n.natAbs).toArray).size ≤ 3
  unfold decN
  split <;> split <;> simp
/-- The number of a text. -/
def numer (t : ByteArray) : Option Int := ((List.range 199).find? fun (i : Nat) => decide (t = dec ((i : Int) - 99))).map fun (i : Nat) => (i : Int) - 99
theorem numer_some {t : ByteArray} {j : Nat} (hj : j < 199) (h : t = dec ((j : Int) - 99)) (hb : ∀ i : Nat, i < j → t ≠ dec ((i : Int) - 99)) : numer t = some ((j : Int) - 99) := by
  have : (List.range 199).find? (fun (i : Nat) => decide (t = dec ((i : Int) - 99))) = some j := by
    rw [List.find?_range_eq_some]
    exact ⟨by simp [← h], by simpa using hj, fun i hi => by simpa using hb i hi⟩
  simp [numer, this]
theorem numer_none {t : ByteArray} (hb : ∀ i : Nat, i < 199 → t ≠ dec ((i : Int) - 99)) : numer t = none := by
  have : (List.range 199).find? (fun (i : Nat) => decide (t = dec ((i : Int) - 99))) = none := by
    rw [List.find?_eq_none]
    intro i hi
    simpa using hb i (by simpa using hi)
  simp [numer, this]
theorem numer_range {t : ByteArray} {n : Int} (h : numer t = some n) : -99 ≤ n ∧ n ≤ 99 := by
  unfold numer at h
  obtain ⟨i, hi, rfl⟩ := Option.map_eq_some_iff.1 h
  have := List.mem_of_find?_eq_some hi
  simp at this
  omega
/-- What the look at a text of inputs has come to ahead of place i: where the next numeral begins, and the numbers. -/
def inpSt (s : ByteArray) : Nat → Option (Nat × List Int)
  | 0 => some (0, [])
  | i + 1 => match inpSt s i with
    | none => none
    | some (f, l) => if i = s.size ∨ g s i = 44 then (match numer (s.extract f i) with
        | some n => some (i + 1, l ++ [n])
        | none => none) else some (f, l)
def inps (s : ByteArray) : Option (List Int) := if s.size = 0 then some [] else (inpSt s (s.size + 1)).map fun p => p.2
theorem inpSt_none {s : ByteArray} {i : Nat} (h : inpSt s i = none) : ∀ k, i ≤ k → inpSt s k = none := by
  intro k hk
  induction k with
  | zero =>
    have : i = 0 := by omega
    subst this; exact h
  | succ k ih =>
    by_cases e : i = k + 1
    · subst e; exact h
    · simp [inpSt, ih (by omega)]
theorem inpSt_num {s : ByteArray} {i f : Nat} {l : List Int} {n : Int} (h : inpSt s i = some (f, l)) (hc : i = s.size ∨ g s i = 44) (hn : numer (s.extract f i) = some n) : inpSt s (i + 1) = some (i + 1, l ++ [n]) := by
  simp only [inpSt, h]
  rw [if_pos hc, hn]
theorem inpSt_bad {s : ByteArray} {i f : Nat} {l : List Int} (h : inpSt s i = some (f, l)) (hc : i = s.size ∨ g s i = 44) (hn : numer (s.extract f i) = none) : inpSt s (i + 1) = none := by
  simp only [inpSt, h]
  rw [if_pos hc, hn]
theorem inpSt_on {s : ByteArray} {i f : Nat} {l : List Int} (h : inpSt s i = some (f, l)) (hc : ¬ (i = s.size ∨ g s i = 44)) : inpSt s (i + 1) = some (f, l) := by
  simp only [inpSt, h]
  rw [if_neg hc]
theorem inps_bad {s : ByteArray} {i f : Nat} {l : List Int} (h0 : s.size ≠ 0) (hi : i ≤ s.size) (h : inpSt s i = some (f, l)) (hc : i = s.size ∨ g s i = 44) (hn : numer (s.extract f i) = none) : inps s = none := by
  simp [inps, h0, inpSt_none (inpSt_bad h hc hn) (s.size + 1) (by omega)]
theorem inps_good {s : ByteArray} {f : Nat} {l : List Int} (h0 : s.size ≠ 0) (h : inpSt s (s.size + 1) = some (f, l)) : inps s = some l := by simp [inps, h0, h]
end Go.Proofs.YtmnfndpbblpjiabGreatDoor.Pu

/- What the program's reader reads as a number: plain. -/
namespace Go.Proofs.YtmnfndpbblpjiabGreatDoor.Pu

/-- The number at f, and where it ends. -/
def rdN (s : ByteArray) (f : Nat) : Option (Int × Nat) :=
  if g s f = 48 then some (0, f + 1)
  else if g s f = 45 then
    (if 49 ≤ g s (f + 1) ∧ g s (f + 1) ≤ 57 then
      (if 48 ≤ g s (f + 2) ∧ g s (f + 2) ≤ 57 then some (-((10 * (g s (f + 1) - 48) + (g s (f + 2) - 48) : Nat) : Int), f + 3) else some (-((g s (f + 1) - 48 : Nat) : Int), f + 2))
      else none)
  else if 49 ≤ g s f ∧ g s f ≤ 57 then
    (if 48 ≤ g s (f + 1) ∧ g s (f + 1) ≤ 57 then some (((10 * (g s f - 48) + (g s (f + 1) - 48) : Nat) : Int), f + 2) else some (((g s f - 48 : Nat) : Int), f + 1))
  else none
theorem dec_list (n : Int) : (dec n).data.toList = (if n < 0 then [45] else []) ++ decN n.natAbs := by simp [dec]
theorem ext_get {s : ByteArray} {f e : Nat} {l : List UInt8} (he : e ≤ s.size) (h : s.extract f e = ⟨l.toArray⟩) (hf : f ≤ e) : e = f + l.length ∧ ∀ j (hj : j < l.length), g s (f + j) = l[j].toNat := by
  have hsz : (s.extract f e).size = l.length := by rw [h]; rfl
  rw [ByteArray.size_extract] at hsz
  refine ⟨by omega, fun j hj => ?_⟩
  have hfj : f + j < s.size := by omega
  rw [g_in hfj]
  have h1 : (s.extract f e)[j]'(by rw [ByteArray.size_extract]; omega) = s[f + j] := by
    rw [ByteArray.getElem_extract]
  have h2 : ∀ hh, (⟨l.toArray⟩ : ByteArray)[j]'hh = l[j] := fun _ => rfl
  rw [← h1]
  congr 1
  simp only [h]
  exact h2 _
theorem ofNat_toNat {n : Nat} (h : n < 256) : (UInt8.ofNat n).toNat = n := UInt8.toNat_ofNat_of_lt' (by simpa using h)
theorem decN_get {n : Nat} (h : n ≤ 99) : (n ≤ 9 ∧ decN n = [UInt8.ofNat (48 + n)]) ∨ (9 < n ∧ decN n = [UInt8.ofNat (48 + n / 10), UInt8.ofNat (48 + n % 10)]) := by
  unfold decN
  by_cases h9 : 9 < n
  · exact .inr ⟨h9, by rw [if_pos h9]⟩
  · refine .inl ⟨by omega, ?_⟩
    rw [if_neg h9, Nat.mod_eq_of_lt (by omega)]
theorem rdN_of {s : ByteArray} {f e : Nat} {n : Int} (hf : f ≤ e) (he : e ≤ s.size) (hb : e = s.size ∨ g s e = 44) (h : s.extract f e = dec n) (h1 : -99 ≤ n) (h2 : n ≤ 99) : rdN s f = some (n, e) := by
  have hend : ¬ (48 ≤ g s e ∧ g s e ≤ 57) := by
    rcases hb with hb | hb
    · rw [g_out (by omega)]; omega
    · omega
  by_cases hn : n < 0
  · obtain ⟨m, rfl⟩ : ∃ m : Nat, n = -(m : Int) := ⟨n.natAbs, by omega⟩
    rw [dec_neg m (by omega)] at h
    obtain ⟨hlen, hget⟩ := ext_get he h hf
    rcases decN_get (show m ≤ 99 by omega) with ⟨hm, hd⟩ | ⟨hm, hd⟩
    · rw [hd] at hlen hget
      have g0 : g s f = 45 := by simpa using hget 0 (by simp)
      have g1 : g s (f + 1) = 48 + m := by have := hget 1 (by simp); rw [this]; exact ofNat_toNat (by omega)
      have hl : e = f + 2 := by simpa using hlen
      subst hl
      unfold rdN
      rw [if_neg (by omega), if_pos g0, if_pos (by omega), if_neg hend, g1]
      congr 3
      omega
    · rw [hd] at hlen hget
      have g0 : g s f = 45 := by simpa using hget 0 (by simp)
      have g1 : g s (f + 1) = 48 + m / 10 := by have := hget 1 (by simp); rw [this]; exact ofNat_toNat (by omega)
      have g2 : g s (f + 2) = 48 + m % 10 := by have := hget 2 (by simp); rw [this]; exact ofNat_toNat (by omega)
      have hl : e = f + 3 := by simpa using hlen
      subst hl
      unfold rdN
      rw [if_neg (by omega), if_pos g0, if_pos (by omega), if_pos (by omega), g1, g2]
      congr 3
      omega
  · obtain ⟨m, rfl⟩ : ∃ m : Nat, n = (m : Int) := ⟨n.toNat, by omega⟩
    rw [dec_nat m] at h
    obtain ⟨hlen, hget⟩ := ext_get he h hf
    rcases decN_get (show m ≤ 99 by omega) with ⟨hm, hd⟩ | ⟨hm, hd⟩
    · rw [hd] at hlen hget
      have g0 : g s f = 48 + m := by have := hget 0 (by simp); rw [Nat.add_zero] at this; rw [this]; exact ofNat_toNat (by omega)
      have hl : e = f + 1 := by simpa using hlen
      subst hl
      unfold rdN
      by_cases hz : m = 0
      · subst hz; rw [if_pos (by omega)]; rfl
      · rw [if_neg (by omega), if_neg (by omega), if_pos (by omega), if_neg hend, g0]
        congr 3
        omega
    · rw [hd] at hlen hget
      have g0 : g s f = 48 + m / 10 := by have := hget 0 (by simp); rw [Nat.add_zero] at this; rw [this]; exact ofNat_toNat (by omega)
      have g1 : g s (f + 1) = 48 + m % 10 := by have := hget 1 (by simp); rw [this]; exact ofNat_toNat (by omega)
      have hl : e = f + 2 := by simpa using hlen
      subst hl
      unfold rdN
      rw [if_neg (by omega), if_neg (by omega), if_pos (by omega), if_pos (by omega), g0, g1]
      congr 3
      omega
end Go.Proofs.YtmnfndpbblpjiabGreatDoor.Pu

/- What the reader has read; the next comma; texts of inputs. -/
namespace Go.Proofs.YtmnfndpbblpjiabGreatDoor.Pu

theorem ext_mk {s : ByteArray} {f : Nat} {l : List UInt8} (hl : f + l.length ≤ s.size) (h : ∀ j (hj : j < l.length), g s (f + j) = l[j].toNat) : s.extract f (f + l.length) = ⟨l.toArray⟩ := by
  have hsz : (s.extract f (f + l.length)).size = l.length := by rw [ByteArray.size_extract]; omega
  apply ByteArray.ext
  apply Array.ext
  · show (s.extract f (f + l.length)).size = _
    rw [hsz]; simp
  · intro i h1 h2
    have hi : i < l.length := by simpa using h2
    have h3 := h i hi
    rw [g_in (by omega)] at h3
    have h4 : s[f + i]'(by omega) = l[i] := UInt8.toNat_inj.1 h3
    have h5 : (s.extract f (f + l.length))[i]'(by rw [hsz]; exact hi) = s[f + i]'(by omega) := by rw [ByteArray.getElem_extract]
    show (s.extract f (f + l.length))[i]'(by rw [hsz]; exact hi) = _
    rw [h5, h4]; simp
theorem in_of {s : ByteArray} {i : Nat} (h : g s i ≠ 0) : i < s.size := by
  refine Nat.lt_of_not_le fun hh => h (g_out hh)
theorem rdN_dec {s : ByteArray} {f p : Nat} {n : Int} (h : rdN s f = some (n, p)) : f < p ∧ p ≤ s.size ∧ s.extract f p = dec n ∧ -99 ≤ n ∧ n ≤ 99 ∧ ∀ i, f ≤ i → i < p → g s i ≠ 44 := by
  unfold rdN at h
  split at h
  · rename_i h0
    simp at h
    obtain ⟨rfl, rfl⟩ := h
    have hs := in_of (s := s) (i := f) (by omega)
    refine ⟨by omega, by omega, ?_, by omega, by omega, fun i a b => by rw [show i = f by omega]; omega⟩
    refine ext_mk (l := [48]) (by simp; omega) (fun j hj => ?_)
    have : j = 0 := by simpa using hj
    subst this
    simpa using h0
  · split at h
    · rename_i h45
      split at h
      · rename_i h1
        have hs1 := in_of (s := s) (i := f + 1) (by omega)
        split at h
        · rename_i h2
          have hs2 := in_of (s := s) (i := f + 2) (by omega)
          simp only [Option.some.injEq, Prod.mk.injEq] at h
          obtain ⟨rfl, rfl⟩ := h
          generalize hm : 10 * (g s (f + 1) - 48) + (g s (f + 2) - 48) = m
          refine ⟨by omega, by omega, ?_, by omega, by omega, fun i a b => by
            have : i = f ∨ i = f + 1 ∨ i = f + 2 := by omega
            rcases this with rfl | rfl | rfl <;> omega⟩
          rw [dec_neg m (by omega)]
          have hd : decN m = [UInt8.ofNat (48 + m / 10), UInt8.ofNat (48 + m % 10)] := by unfold decN; rw [if_pos (by omega)]
          rw [hd]
          refine ext_mk (l := [45, UInt8.ofNat (48 + m / 10), UInt8.ofNat (48 + m % 10)]) (by simp; omega) (fun j hj => ?_)
          have : j = 0 ∨ j = 1 ∨ j = 2 := by simp at hj; omega
          rcases this with rfl | rfl | rfl
          · simpa using h45
          · show g s (f + 1) = (UInt8.ofNat (48 + m / 10)).toNat
            rw [ofNat_toNat (by omega)]; omega
          · show g s (f + 2) = (UInt8.ofNat (48 + m % 10)).toNat
            rw [ofNat_toNat (by omega)]; omega
        · simp only [Option.some.injEq, Prod.mk.injEq] at h
          obtain ⟨rfl, rfl⟩ := h
          generalize hm : g s (f + 1) - 48 = m
          refine ⟨by omega, by omega, ?_, by omega, by omega, fun i a b => by
            have : i = f ∨ i = f + 1 := by omega
            rcases this with rfl | rfl <;> omega⟩
          rw [dec_neg m (by omega)]
          have hd : decN m = [UInt8.ofNat (48 + m)] := by unfold decN; rw [if_neg (by omega), Nat.mod_eq_of_lt (by omega)]
          rw [hd]
          refine ext_mk (l := [45, UInt8.ofNat (48 + m)]) (by simp; omega) (fun j hj => ?_)
          have : j = 0 ∨ j = 1 := by simp at hj; omega
          rcases this with rfl | rfl
          · simpa using h45
          · show g s (f + 1) = (UInt8.ofNat (48 + m)).toNat
            rw [ofNat_toNat (by omega)]; omega
      · cases h
    · split at h
      · rename_i h1
        have hs1 := in_of (s := s) (i := f) (by omega)
        split at h
        · rename_i h2
          have hs2 := in_of (s := s) (i := f + 1) (by omega)
          simp only [Option.some.injEq, Prod.mk.injEq] at h
          obtain ⟨rfl, rfl⟩ := h
          generalize hm : 10 * (g s f - 48) + (g s (f + 1) - 48) = m
          refine ⟨by omega, by omega, ?_, by omega, by omega, fun i a b => by
            have : i = f ∨ i = f + 1 := by omega
            rcases this with rfl | rfl <;> omega⟩
          rw [dec_nat m]
          have hd : decN m = [UInt8.ofNat (48 + m / 10), UInt8.ofNat (48 + m % 10)] := by unfold decN; rw [if_pos (by omega)]
          rw [hd]
          refine ext_mk (l := [UInt8.ofNat (48 + m / 10), UInt8.ofNat (48 + m % 10)]) (by simp; omega) (fun j hj => ?_)
          have : j = 0 ∨ j = 1 := by simp at hj; omega
          rcases this with rfl | rfl
          · show g s (f + 0) = (UInt8.ofNat (48 + m / 10)).toNat
            rw [ofNat_toNat (by omega), Nat.add_zero]; omega
          · show g s (f + 1) = (UInt8.ofNat (48 + m % 10)).toNat
            rw [ofNat_toNat (by omega)]; omega
        · simp only [Option.some.injEq, Prod.mk.injEq] at h
          obtain ⟨rfl, rfl⟩ := h
          generalize hm : g s f - 48 = m
          refine ⟨by omega, by omega, ?_, by omega, by omega, fun i a b => by rw [show i = f by omega]; omega⟩
          rw [dec_nat m]
          have hd : decN m = [UInt8.ofNat (48 + m)] := by unfold decN; rw [if_neg (by omega), Nat.mod_eq_of_lt (by omega)]
          rw [hd]
          refine ext_mk (l := [UInt8.ofNat (48 + m)]) (by simp; omega) (fun j hj => ?_)
          have : j = 0 := by simpa using hj
          subst this
          show g s (f + 0) = (UInt8.ofNat (48 + m)).toNat
          rw [ofNat_toNat (by omega), Nat.add_zero]; omega
      · cases h
theorem numer_dec {t : ByteArray} {n : Int} (h : numer t = some n) : t = dec n ∧ -99 ≤ n ∧ n ≤ 99 := by
  have hr := numer_range h
  refine ⟨?_, hr⟩
  unfold numer at h
  obtain ⟨i, hi, rfl⟩ := Option.map_eq_some_iff.1 h
  simpa using List.find?_some hi
/-- Where the number ends at a comma or at the end, it is the piece's. -/
theorem numer_at {s : ByteArray} {f p : Nat} {n : Int} (h : rdN s f = some (n, p)) (hb : p = s.size ∨ g s p = 44) : numer (s.extract f p) = some n := by
  obtain ⟨h1, h2, h3, h4, h5, -⟩ := rdN_dec h
  cases hn : numer (s.extract f p) with
  | none =>
    exfalso
    unfold numer at hn
    rw [Option.map_eq_none_iff, List.find?_eq_none] at hn
    have := hn (n + 99).toNat (by simp; omega)
    simp at this
    exact this (by rw [h3]; congr 1; omega)
  | some m =>
    obtain ⟨k1, k2, k3⟩ := numer_dec hn
    have := rdN_of (by omega) h2 hb k1 k2 k3
    rw [h] at this
    simp at this
    rw [this]
theorem next_comma {s : ByteArray} (f : Nat) (hf : f ≤ s.size) : ∃ e, f ≤ e ∧ e ≤ s.size ∧ (e = s.size ∨ g s e = 44) ∧ ∀ i, f ≤ i → i < e → g s i ≠ 44 := by
  obtain ⟨d, hd⟩ : ∃ d, s.size - f = d := ⟨_, rfl⟩
  induction d generalizing f with
  | zero => exact ⟨f, by omega, hf, .inl (by omega), fun i a b => by omega⟩
  | succ d ih =>
    by_cases h : g s f = 44
    · exact ⟨f, by omega, hf, .inr h, fun i a b => by omega⟩
    · obtain ⟨e, h1, h2, h3, h4⟩ := ih (f + 1) (by omega) (by omega)
      refine ⟨e, by omega, h2, h3, fun i a b => ?_⟩
      by_cases e1 : i = f
      · subst e1; exact h
      · exact h4 i (by omega) b
theorem inpSt_stay {s : ByteArray} {f : Nat} {l : List Int} (h : inpSt s f = some (f, l)) : ∀ e, f ≤ e → e ≤ s.size → (∀ i, f ≤ i → i < e → g s i ≠ 44) → inpSt s e = some (f, l) := by
  intro e
  induction e with
  | zero =>
    intro h1 _ _; have : f = 0 := by omega
    subst this; exact h
  | succ e ih =>
    intro h1 h2 h3
    by_cases e1 : f = e + 1
    · subst e1; exact h
    · exact inpSt_on (ih (by omega) (by omega) (fun i a b => h3 i a (by omega))) (by have := h3 e (by omega) (by omega); omega)
/-- A number and a comma. -/
theorem inp_comma {s : ByteArray} {f p : Nat} {n : Int} {l : List Int} (h : inpSt s f = some (f, l)) (hr : rdN s f = some (n, p)) (hc : g s p = 44) : inpSt s (p + 1) = some (p + 1, l ++ [n]) := by
  obtain ⟨h1, h2, -, -, -, h6⟩ := rdN_dec hr
  exact inpSt_num (inpSt_stay h p (by omega) h2 h6) (.inr hc) (numer_at hr (.inr hc))
/-- A number and the end. -/
theorem inp_last {s : ByteArray} {f : Nat} {n : Int} {l : List Int} (h0 : s.size ≠ 0) (h : inpSt s f = some (f, l)) (hr : rdN s f = some (n, s.size)) : inps s = some (l ++ [n]) := by
  obtain ⟨h1, h2, -, -, -, h6⟩ := rdN_dec hr
  exact inps_good h0 (inpSt_num (inpSt_stay h s.size (by omega) h2 h6) (.inl rfl) (numer_at hr (.inl rfl)))
/-- No number, or something behind it. -/
theorem inp_bad {s : ByteArray} {f : Nat} {l : List Int} (h0 : s.size ≠ 0) (hf : f ≤ s.size) (h : inpSt s f = some (f, l)) (hr : ∀ n p, rdN s f = some (n, p) → p ≠ s.size ∧ g s p ≠ 44) : inps s = none := by
  obtain ⟨e, h1, h2, h3, h4⟩ := next_comma f hf
  refine inps_bad h0 h2 (inpSt_stay h e h1 h2 h4) h3 ?_
  cases hn : numer (s.extract f e) with
  | none => rfl
  | some m =>
    exfalso
    obtain ⟨k1, k2, k3⟩ := numer_dec hn
    have := hr m e (rdN_of h1 h2 h3 k1 k2 k3)
    rcases h3 with h3 | h3
    · exact this.1 h3
    · exact this.2 h3
end Go.Proofs.YtmnfndpbblpjiabGreatDoor.Pu
